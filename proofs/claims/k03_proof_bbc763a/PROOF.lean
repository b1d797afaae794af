import PyProof.Rows.All
import Wide.All
import OpenK.AllK
import Wide.FinOn
import PyProof.EqAt
import PyProof.EqKinds
import PyProof.TupleCall
import KE.BitLaws
import PySem.Challenge.RW_dodays_k03_whole_months_on
set_option Elab.async false
set_option linter.all false
set_option maxRecDepth 100000
/-! THE HAND LAYER, for ints, bools, texts, own classes, lists, tuples, dicts, comprehensions, walks over dicts, enumerate, zip, reversed, texts, calls, loops. Paste it whole ahead of your own text; what your proof does not reach may be deleted. -/
namespace L2
open PySem PySem.Spec PyProof.Rows

/-- a key: an int or a str -/
abbrev Key := Sum Int Str
def keyIs : Key → Value → Bool
  | .inl k, v => Value.isInt k v
  | .inr x, v => Value.isStrOf x v
def keyH (w : World) : Key → Int
  | .inl k => hashInt k
  | .inr x => hashStr w x
theorem keyIs_shape : ∀ {k : Key} {v : Value}, keyIs k v = true → (∃ i t, k = Sum.inl i ∧ v = Value.int i t) ∨ (∃ x t, k = Sum.inr x ∧ v = Value.str x t)
  | .inl i, v, h => by
    obtain ⟨t, e⟩ := Value.isInt_shape (k := i) (v := v) h
    exact .inl ⟨i, t, rfl, e⟩
  | .inr x, v, h => by
    obtain ⟨t, e⟩ := Value.isStrOf_shape (x := x) (v := v) h
    exact .inr ⟨x, t, rfl, e⟩
theorem keyIs_int (i : Int) (t : Tok) : keyIs (.inl i) (.int i t) = true := by simp [keyIs, Value.isInt]
theorem keyIs_str (x : Str) (t : Tok) : keyIs (.inr x) (.str x t) = true := by simp [keyIs, Value.isStrOf]
theorem key_ll (a b : Int) : decide ((Sum.inl a : Key) = Sum.inl b) = (a == b) := by
  by_cases e : a = b
  · subst e; simp
  · have h : ¬ (Sum.inl a : Key) = Sum.inl b := fun q => e (Sum.inl.inj q)
    rw [decide_eq_false h]
    exact (beq_eq_false_iff_ne.mpr e).symm
theorem key_rr (a b : Str) : decide ((Sum.inr a : Key) = Sum.inr b) = decide (a = b) := by
  by_cases e : a = b
  · subst e; simp
  · have h : ¬ (Sum.inr a : Key) = Sum.inr b := fun q => e (Sum.inr.inj q)
    rw [decide_eq_false h, decide_eq_false e]
theorem key_lr (a : Int) (b : Str) : decide ((Sum.inl a : Key) = Sum.inr b) = false := decide_eq_false (fun q => nomatch q)
theorem key_rl (a : Str) (b : Int) : decide ((Sum.inr a : Key) = Sum.inl b) = false := decide_eq_false (fun q => nomatch q)

def mixKind (prog : Program) (w : World) : PySem.KeyKind prog w Key where
  is := keyIs
  hash := keyH w
  inj := fun v a b ha hb => by
    rcases keyIs_shape ha with ⟨i, t, rfl, rfl⟩ | ⟨x, t, rfl, rfl⟩
    · rcases keyIs_shape hb with ⟨j, u, rfl, e⟩ | ⟨y, u, rfl, e⟩
      · injection e with e1 _; rw [e1]
      · exact nomatch e
    · rcases keyIs_shape hb with ⟨j, u, rfl, e⟩ | ⟨y, u, rfl, e⟩
      · exact nomatch e
      · injection e with e1 _; rw [e1]
  byValue := fun k v h => by
    rcases keyIs_shape h with ⟨i, t, rfl, rfl⟩ | ⟨x, t, rfl, rfl⟩ <;> rfl
  pyHash := fun hv h => by
    rcases keyIs_shape hv with ⟨i, t, rfl, rfl⟩ | ⟨x, t, rfl, rfl⟩
    · exact wpAny_pyHash_int h
    · exact wpAny_pyHash_str h
  eqBool := fun hu hv h => by
    rcases keyIs_shape hu with ⟨i, t, rfl, rfl⟩ | ⟨x, t, rfl, rfl⟩
    · rcases keyIs_shape hv with ⟨j, u, rfl, rfl⟩ | ⟨y, u, rfl, rfl⟩
      · rw [key_ll] at h; exact wpAny_eqBool_int h
      · rw [key_lr] at h; exact SeqAt.EqAt.int_str i t y u _ _ _ _ h
    · rcases keyIs_shape hv with ⟨j, u, rfl, rfl⟩ | ⟨y, u, rfl, rfl⟩
      · rw [key_rl] at h; exact SeqAt.EqAt.str_int x t j u _ _ _ _ h
      · rw [key_rr] at h; exact wpAny_eqBool_str h
  «strs» := fun k x t v h => by
    rcases keyIs_shape h with ⟨i, u, rfl, e⟩ | ⟨y, u, rfl, e⟩
    · exact nomatch e
    · injection e with e1 _
      subst e1
      cases v <;> rfl

theorem mixKind_is (prog : Program) (w : World) (k : Key) (v : Value) : (mixKind prog w).is k v = keyIs k v := rfl
theorem mixKind_int (prog : Program) (w : World) (i : Int) (t : Tok) : (mixKind prog w).is (.inl i) (.int i t) = true := keyIs_int i t
theorem mixKind_str (prog : Program) (w : World) (x : Str) (t : Tok) : (mixKind prog w).is (.inr x) (.str x t) = true := keyIs_str x t
end L2

namespace L2
open PySem PySem.Spec PyProof.Rows

/-- a value, without the heap -/
inductive V where
  | non | bl (b : Bool) | int (i : Int) | str (x : Str) | byt (b : Array UInt8) | flt (b : UInt64) | ref (a : Addr) | ty (n : String)
  deriving DecidableEq

def RelV : V → Value → Prop
  | .non, u => u = Value.none
  | .bl b, u => u = Value.bool b
  | .int i, u => ∃ t, u = Value.int i t
  | .str x, u => ∃ t, u = Value.str x t
  | .byt b, u => ∃ t, u = Value.bytes b t
  | .flt b, u => ∃ t, u = Value.float b t
  | .ref a, u => u = Value.ref a
  | .ty n, u => u = Value.type n

abbrev Vals : List V → List Value → Prop := Paired RelV
theorem Vals.length {xs : List V} {us : List Value} (r : Vals xs us) : xs.length = us.length := Paired.length r
theorem Vals.get : ∀ {xs : List V} {us : List Value} {i : Nat} {x : V}, Vals xs us → xs[i]? = some x → ∃ u, us[i]? = some u ∧ RelV x u
  | _, _, _, _, .nil, e => by simp at e
  | _, _, 0, _, .cons r _, e => by simp at e; subst e; exact ⟨_, rfl, r⟩
  | _, _, i + 1, x, .cons _ t, e => by
    obtain ⟨u, h1, h2⟩ := Vals.get (i := i) (x := x) t (by simpa using e)
    exact ⟨u, by simpa using h1, h2⟩
theorem Vals.set {x : V} {u : Value} (r : RelV x u) : ∀ {xs : List V} {us : List Value} (i : Nat), Vals xs us → Vals (xs.set i x) (us.set i u)
  | _, _, _, .nil => .nil
  | _, _, 0, .cons _ t => .cons r t
  | _, _, i + 1, .cons q t => .cons q (Vals.set r i t)
theorem Vals.append : ∀ {xs ys : List V} {us ws : List Value}, Vals xs us → Vals ys ws → Vals (xs ++ ys) (us ++ ws)
  | _, _, _, _, .nil, s => s
  | _, _, _, _, .cons r t, s => .cons r (Vals.append t s)
theorem Vals.take : ∀ {xs : List V} {us : List Value} (n : Nat), Vals xs us → Vals (xs.take n) (us.take n)
  | _, _, 0, _ => .nil
  | _, _, _ + 1, .nil => .nil
  | _, _, n + 1, .cons r t => .cons r (Vals.take n t)
theorem Vals.drop : ∀ {xs : List V} {us : List Value} (n : Nat), Vals xs us → Vals (xs.drop n) (us.drop n)
  | _, _, 0, r => r
  | _, _, _ + 1, .nil => .nil
  | _, _, n + 1, .cons _ t => Vals.drop n t
theorem Vals.none_of : ∀ {xs : List V} {us : List Value} {i : Nat}, Vals xs us → xs[i]? = none → us[i]? = none := fun {xs us i} r e => by
  have h1 := r.length
  have h2 : xs.length ≤ i := List.getElem?_eq_none_iff.mp e
  exact List.getElem?_eq_none_iff.mpr (by omega)

def RelO : Option V → Option Value → Prop
  | some v, some u => RelV v u
  | none, none => True
  | _, _ => False
def KV {κ : Type} : List (κ × V) → List (κ × Value) → Prop := Paired fun (p : κ × V) (q : κ × Value) => p.1 = q.1 ∧ RelV p.2 q.2

/-- a key of a dict (00_mix): an int or a text -/
def kV : Key → V
  | .inl i => .int i
  | .inr x => .str x

/-- what stands at a tracked address -/
inductive HO where
  /-- a list -/
  | lst (xs : List V)
  /-- a tuple (never changes) -/
  | tup (xs : List V)
  /-- a dict whose keys are ints and texts; one whose keys are tuples of ints and texts (the empty one is both) -/
  | dK (kvs : List (Key × V)) | dT (kvs : List (List Key × V))
  /-- a set of ints: its members, its size -/
  | set (S : Int → Bool) (n : Nat)
  /-- an instance of the class at C, its dict at dx, its attributes -/
  | ins (C dx : Addr) (fs : List (Str × V))
  /-- the dict of the instance at x -/
  | own (x : Addr)
  /-- the dict of an exception -/
  | xd (fs : List (Str × V))
  /-- a bound method, f of x -/
  | met (f x : Addr)
  /-- a range object lo, lo + 1, .. below hi -/
  | rng (lo hi : Int)
  /-- a thing that is known to the object (the script; a dict while a loop walks it): read, never written while it is so -/
  | frz (o : Obj) (u : HO)
  /-- a code object's table -/
  | tbl (ps : Array Value)
  /-- any other thing, by what is true of its one object (a def of one's own: SetO a S n := HO.ext fun h => ..) -/
  | ext (φ : Heap → Prop)

abbrev Hp := Addr → Option HO
def upd (H : Hp) (a : Addr) (o : HO) : Hp := fun b => if b = a then some o else H b
theorem upd_same {H : Hp} {a : Addr} {o : HO} : upd H a o a = some o := by unfold upd; rw [if_pos rfl]
theorem upd_ne {H : Hp} {a b : Addr} {o : HO} (h : b ≠ a) : upd H a o b = H b := by unfold upd; rw [if_neg h]
theorem upd_upd {H : Hp} {a : Addr} {o u : HO} : upd (upd H a o) a u = upd H a u := by
  funext b; unfold upd; split <;> rfl
/-- two objects of different content stand apart -/
theorem ne_of {H : Hp} {a b : Addr} {o u : HO} (h : H a = some o) (h' : H b = some u) (d : o ≠ u) : a ≠ b := by
  intro e; subst e; rw [h] at h'; exact d (Option.some.inj h')
theorem ne_of_none {H : Hp} {a b : Addr} {o : HO} (h : H a = some o) (h' : H b = none) : a ≠ b := by
  intro e; subst e; rw [h] at h'; cases h'

section
variable (P : Program) (w : World)
def ObjOk (H : Hp) (h : Heap) (a : Addr) : HO → Prop
  | .lst xs => xs.length ≤ sizeLine ∧ ∃ (its : List Value) (n : Nat), Vals xs its ∧ h.get? a = some { cls := .type "list", data := .seq its.toArray n }
  | .tup xs => xs.length ≤ sizeLine ∧ ∃ its : List Value, Vals xs its ∧ IsTup h a its.toArray
  | .dK kvs => kvs.length ≤ sizeLine ∧ (a == sysModules) = false ∧ ∃ vs, KV kvs vs ∧ h.DictOf (mixKind P w) a vs
  | .dT kvs => kvs.length ≤ sizeLine ∧ (a == sysModules) = false ∧ ∃ xs : List (List Key × Addr × Value),
      Paired (fun (p : List Key × V) (q : List Key × Addr × Value) => p.1 = q.1 ∧ H q.2.1 = some (.tup (p.1.map kV)) ∧ RelV p.2 q.2.2) kvs xs ∧
      ∃ o es ep, h.get? a = some o ∧ o.ExactDict ∧ o.data = .dict es ep ∧ es.toList = xs.map (entryOfKey (tupleKind (mixKind P w))) ∧ (xs.map (·.1)).Nodup
  | .set S n => h.SetOf (intKind P w) a S n
  | .ins C dx fs => H dx = some (.own a) ∧ fs.length ≤ 1000 ∧ dx ≠ a ∧ h.get? a = some (PySem.W.instObj C dx) ∧
      ∃ mA, h.Ns1 dx mA ∧ (∀ f, RelO (fs.lookup f) (mA f)) ∧ PySem.Within mA (fs.map (·.1))
  | .own _ => ∃ o, h.get? a = some o
  | .xd fs => ∃ mA, h.Ns1 a mA ∧ ∀ f, RelO (fs.lookup f) (mA f)
  | .rng lo hi => ∃ t u v, h.get? a = some { cls := .type "range", data := .fields #[.int lo t, .int hi u, .int 1 v] }
  | .frz o u => h.get? a = some o ∧ ObjOk H h a u
  | .tbl ps => h.get? a = some { cls := .none, data := .fields ps }
  | .met f x => h.get? a = some (PySem.W.methodObj (.ref f) (.ref x))
  | .ext φ => φ h ∧ (∃ o, h.get? a = some o) ∧ ∀ h1 h2 : Heap, φ h1 → (∀ o, h1.get? a = some o → h2.get? a = some o) → φ h2
/-- the abstract heap is held -/
def HOk (H : Hp) (h : Heap) : Prop := ∀ a o, H a = some o → ObjOk P w H h a o
end

section
variable {P : Program} {w : World} {H H' : Hp} {h h' : Heap} {a : Addr} {o : HO}
theorem ObjOk.lt (x : ObjOk P w H h a o) : a < h.objs.size := by
  cases o with
  | lst xs => obtain ⟨_, _, _, _, e⟩ := x; exact Heap.lt_size e
  | tup xs => obtain ⟨_, _, _, p⟩ := x; exact p.lt
  | dK kvs => obtain ⟨_, _, _, _, o, _, _, e, _⟩ := x; exact Heap.lt_size e
  | dT kvs => obtain ⟨_, _, _, _, o, _, _, e, _⟩ := x; exact Heap.lt_size e
  | set S n => obtain ⟨o, _, _, _, e, _⟩ := x; exact Heap.lt_size e
  | ins C dx fs => obtain ⟨_, _, _, e, _⟩ := x; exact Heap.lt_size e
  | own y => obtain ⟨_, e⟩ := x; exact Heap.lt_size e
  | xd fs => obtain ⟨_, ⟨_, _, _, e, _⟩, _⟩ := x; exact Heap.lt_size e
  | rng lo hi => obtain ⟨_, _, _, e⟩ := x; exact Heap.lt_size e
  | frz ob u => obtain ⟨e, _⟩ := x; exact Heap.lt_size e
  | tbl ps => exact Heap.lt_size (show h.get? a = some _ from x)
  | met f y => exact Heap.lt_size (show h.get? a = some _ from x)
  | ext φ => obtain ⟨_, ⟨_, e⟩, _⟩ := x; exact Heap.lt_size e
theorem Paired.mapP {α β : Type} {F G : α → β → Prop} : ∀ {l₁ : List α} {l₂ : List β}, Paired F l₁ l₂ → (∀ a b, F a b → G a b) → Paired G l₁ l₂
  | _, _, .nil, _ => .nil
  | _, _, .cons r t, f => .cons (f _ _ r) (Paired.mapP t f)
theorem Paired.imp' {α β : Type} {F G : α → β → Prop} (f : ∀ a b, F a b → G a b) {l₁ : List α} {l₂ : List β} (r : Paired F l₁ l₂) : Paired G l₁ l₂ := Paired.mapP r f
/-- what an object's description leans on: its own object, its own dict, the tuples -/
theorem ObjOk.stay (x : ObjOk P w H h a o) (k : ∀ b u, (b = a ∨ H b = some (.own a)) → h.get? b = some u → h'.get? b = some u)
    (ho : ∀ b, H b = some (.own a) → H' b = some (.own a)) (ht : ∀ b xs, H b = some (.tup xs) → H' b = some (.tup xs)) : ObjOk P w H' h' a o := by
  induction o with
  | lst xs => obtain ⟨z, its, n, r, e⟩ := x; exact ⟨z, its, n, r, k _ _ (.inl rfl) e⟩
  | tup xs => obtain ⟨z, its, r, ob, e, c⟩ := x; exact ⟨z, its, r, ob, k _ _ (.inl rfl) e, c⟩
  | dK kvs => obtain ⟨z, y, vs, r, ob, es, ep, e, c⟩ := x; exact ⟨z, y, vs, r, ob, es, ep, k _ _ (.inl rfl) e, c⟩
  | dT kvs =>
    obtain ⟨z, y, xs, r, ob, es, ep, e, c⟩ := x
    exact ⟨z, y, xs, Paired.mapP r fun p q z => ⟨z.1, ht _ _ z.2.1, z.2.2⟩, ob, es, ep, k _ _ (.inl rfl) e, c⟩
  | set S n => obtain ⟨ob, es, ep, t, e, c⟩ := x; exact ⟨ob, es, ep, t, k _ _ (.inl rfl) e, c⟩
  | ins C dx fs =>
    obtain ⟨d, z, ne, e, mA, ⟨od, es, ep, e2, c⟩, r⟩ := x
    exact ⟨ho _ d, z, ne, k _ _ (.inl rfl) e, mA, ⟨od, es, ep, k _ _ (.inr d) e2, c⟩, r⟩
  | own y => obtain ⟨ob, e⟩ := x; exact ⟨ob, k _ _ (.inl rfl) e⟩
  | xd fs => obtain ⟨mA, ⟨od, es, ep, e, c⟩, r⟩ := x; exact ⟨mA, ⟨od, es, ep, k _ _ (.inl rfl) e, c⟩, r⟩
  | rng lo hi => obtain ⟨t, u, v, e⟩ := x; exact ⟨t, u, v, k _ _ (.inl rfl) e⟩
  | frz ob u ih => obtain ⟨e, q⟩ := x; exact ⟨k _ _ (.inl rfl) e, ih q⟩
  | tbl ps =>
    have e : h.get? a = some { cls := .none, data := .fields ps } := x
    show h'.get? a = some { cls := .none, data := .fields ps }
    exact k a _ (.inl rfl) e
  | met f y =>
    have e : h.get? a = some (PySem.W.methodObj (.ref f) (.ref y)) := x
    show h'.get? a = some (PySem.W.methodObj (.ref f) (.ref y))
    exact k a _ (.inl rfl) e
  | ext φ => obtain ⟨p, ⟨o, e⟩, st⟩ := x; exact ⟨st _ _ p fun o q => k _ _ (.inl rfl) q, ⟨o, k _ _ (.inl rfl) e⟩, st⟩
theorem HOk.lt (x : HOk P w H h) (e : H a = some o) : a < h.objs.size := (x a o e).lt
theorem HOk.fresh (x : HOk P w H h) (e : h.objs.size ≤ a) : H a = none := by
  cases q : H a with
  | none => rfl
  | some u => exact absurd (Nat.lt_of_lt_of_le (x.lt q) e) (Nat.lt_irrefl _)
/-- every object of the heap is kept -/
theorem HOk.kept (x : HOk P w H h) (k : ∀ b u, h.get? b = some u → h'.get? b = some u) : HOk P w H h' := fun a o e =>
  (x a o e).stay (fun b u _ q => k b u q) (fun _ q => q) fun _ _ q => q
/-- a new object is laid and tracked -/
theorem HOk.laid (x : HOk P w H h) (k : ∀ b u, h.get? b = some u → h'.get? b = some u) (hp : h.objs.size ≤ a) (new : ObjOk P w (upd H a o) h' a o) : HOk P w (upd H a o) h' := fun b u e => by
  have hn := x.fresh hp
  by_cases hb : b = a
  · subst hb; rw [upd_same] at e; cases e; exact new
  · rw [upd_ne hb] at e
    exact (x b u e).stay (fun c v _ q => k c v q) (fun c q => by rw [upd_ne (ne_of_none q hn)]; exact q) fun c xs q => by rw [upd_ne (ne_of_none q hn)]; exact q
end

/-- what may be read as u: it is u, or a known u -/
def Rd (H : Hp) (a : Addr) (u : HO) : Prop := H a = some u ∨ ∃ o, H a = some (.frz o u)
theorem Rd.of {H : Hp} {a : Addr} {u : HO} (h : H a = some u) : Rd H a u := .inl h
theorem Rd.ok {P : Program} {w : World} {H : Hp} {h : Heap} {a : Addr} {u : HO} (r : Rd H a u) (x : HOk P w H h) : ObjOk P w H h a u := by
  rcases r with r | ⟨o, r⟩
  · exact x a u r
  · obtain ⟨_, q⟩ := x a _ r
    exact q
/-- what may be written -/
def Mut : Option HO → Prop
  | some (.lst _) => True
  | some (.dK _) => True
  | some (.dT _) => True
  | some (.set _ _) => True
  | some (.ins _ _ _) => True
  | some (.ext _) => True
  | _ => False
section
variable {P : Program} {w : World} {H : Hp} {h h' : Heap} {x e : Addr} {o' : HO}
/-- the object at e is changed: x itself, or the dict of the instance x -/
theorem HOk.write (ok : HOk P w H h) (mu : Mut (H x)) (he : e = x ∨ H e = some (.own x)) (k : ∀ b u, b ≠ e → h.get? b = some u → h'.get? b = some u) (heo : ∃ u, h'.get? e = some u)
    (new : ObjOk P w (upd H x o') h' x o') : HOk P w (upd H x o') h' := fun b u q => by
  have nown : ∀ c y, H c = some (.own y) → c ≠ x := fun c y r z => by subst z; rw [r] at mu; exact mu
  have ntup : ∀ c xs, H c = some (.tup xs) → c ≠ x := fun c xs r z => by subst z; rw [r] at mu; exact mu
  by_cases hb : b = x
  · subst hb; rw [upd_same] at q; cases q; exact new
  · rw [upd_ne hb] at q
    by_cases hbe : b = e
    · have q' : H b = some (.own x) := by
        rcases he with z | z
        · exact absurd (hbe.trans z) hb
        · rw [hbe]; exact z
      rw [q] at q'; cases q'
      obtain ⟨v, hv⟩ := heo
      exact ⟨v, by rw [hbe]; exact hv⟩
    · refine (ok b u q).stay (fun c v hc r => k c v ?_ r) (fun c r => by rw [upd_ne (nown c b r)]; exact r) fun c xs r => by rw [upd_ne (ntup c xs r)]; exact r
      rcases hc with rfl | hc
      · exact hbe
      · rintro rfl
        rcases he with z | z
        · exact nown c b hc z
        · rw [hc] at z; cases z; exact hb rfl
end

/-! ### kept unless tracked; of the frames at fs (the callers') the slots may change (an exception that passes writes there); of the records at ex (iterators) nothing is said -/
structure Un (fs ex : List Addr) (H H' : Hp) (h h' : Heap) : Prop where
  keep : ∀ b o, h.get? b = some o → H b = none → b ∉ fs → b ∉ ex → h'.get? b = some o
  slot : ∀ b o, h.get? b = some o → H b = none → b ∈ fs → b ∉ ex → ∃ sl, h'.get? b = some { o with slots := sl }
  free : ∀ b o, h.get? b = some o → H b = none → b ∉ ex → H' b = none
  there : ∀ b o, h.get? b = some o → b ∉ ex → ∃ o', h'.get? b = some o'
  tups : ∀ b xs, H b = some (.tup xs) → H' b = some (.tup xs)
  frzs : ∀ b o u, H b = some (.frz o u) → H' b = some (.frz o u)
  tbls : ∀ b ps, H b = some (.tbl ps) → ∃ more, H' b = some (.tbl (ps ++ more))
section
variable {fs fs' ex ex' : List Addr} {H H1 H2 : Hp} {h h1 h2 h' : Heap} {a x e : Addr} {o : HO}
theorem Un.any (u : Un fs ex H H1 h h1) {b : Addr} {ob : Obj} (q : h.get? b = some ob) (n : H b = none) (hx : b ∉ ex) : ∃ sl, h1.get? b = some { ob with slots := sl } := by
  by_cases hb : b ∈ fs
  · exact u.slot b ob q n hb hx
  · exact ⟨ob.slots, u.keep b ob q n hb hx⟩
theorem Un.trans (a : Un fs ex H H1 h h1) (b : Un fs ex H1 H2 h1 h2) : Un fs ex H H2 h h2 where
  keep := fun c ob q n hc hx => b.keep c ob (a.keep c ob q n hc hx) (a.free c ob q n hx) hc hx
  slot := fun c ob q n hc hx => by
    obtain ⟨sl, e1⟩ := a.slot c ob q n hc hx
    obtain ⟨sl', e2⟩ := b.slot c _ e1 (a.free c ob q n hx) hc hx
    exact ⟨sl', e2⟩
  free := fun c ob q n hx => by
    obtain ⟨o', e1⟩ := a.there c ob q hx
    exact b.free c o' e1 (a.free c ob q n hx) hx
  there := fun c ob q hx => by
    obtain ⟨o', e1⟩ := a.there c ob q hx
    exact b.there c o' e1 hx
  tups := fun c xs q => b.tups c xs (a.tups c xs q)
  frzs := fun c ob xs q => b.frzs c ob xs (a.frzs c ob xs q)
  tbls := fun c ps q => by
    obtain ⟨m1, e1⟩ := a.tbls c ps q
    obtain ⟨m2, e2⟩ := b.tbls c _ e1
    exact ⟨m1 ++ m2, by rw [e2, Array.append_assoc]⟩
theorem Un.kept (k : ∀ b u, h.get? b = some u → h'.get? b = some u) : Un fs ex H H h h' :=
  ⟨fun b ob q _ _ _ => k b ob q, fun b ob q _ _ _ => ⟨ob.slots, k b ob q⟩, fun _ _ _ n _ => n, fun b ob q _ => ⟨ob, k b ob q⟩, fun _ _ q => q, fun _ _ _ q => q, fun _ ps q => ⟨#[], by rw [q]; simp⟩⟩
theorem Un.refl : Un fs ex H H h h := Un.kept fun _ _ q => q
theorem Un.laid (k : ∀ b u, h.get? b = some u → h'.get? b = some u) (hp : h.objs.size ≤ a) (hn : H a = none) : Un fs ex H (upd H a o) h h' where
  keep := fun b u q _ _ _ => k b u q
  slot := fun b u q _ _ _ => ⟨u.slots, k b u q⟩
  free := fun b u q n _ => by rw [upd_ne (Nat.ne_of_lt (Nat.lt_of_lt_of_le (Heap.lt_size q) hp))]; exact n
  there := fun b u q _ => ⟨u, k b u q⟩
  tups := fun b xs q => by rw [upd_ne (ne_of_none q hn)]; exact q
  frzs := fun b u xs q => by rw [upd_ne (ne_of_none q hn)]; exact q
  tbls := fun b ps q => ⟨#[], by rw [upd_ne (ne_of_none q hn), q]; simp⟩
theorem Un.write (mu : Mut (H x)) (he : e = x ∨ H e = some (.own x)) (k : ∀ b u, b ≠ e → h.get? b = some u → h'.get? b = some u) (heo : ∃ u, h'.get? e = some u) : Un fs ex H (upd H x o) h h' := by
  have hx : ∀ b, H b = none → b ≠ x := fun b n z => by subst z; rw [n] at mu; exact mu
  have hb : ∀ b, H b = none → b ≠ e := fun b n z => by
    subst z
    rcases he with r | r
    · exact hx b n r
    · rw [n] at r; cases r
  have hm : ∀ b u, H b = some u → ¬ Mut (some u) → b ≠ x := fun b u q nm z => by subst z; rw [q] at mu; exact nm mu
  refine ⟨fun b u q n _ _ => k b u (hb b n) q, fun b u q n _ _ => ⟨u.slots, k b u (hb b n) q⟩, fun b u q n _ => by rw [upd_ne (hx b n)]; exact n, fun b u q _ => ?_,
    fun b xs q => by rw [upd_ne (hm b _ q fun z => z)]; exact q, fun b u xs q => by rw [upd_ne (hm b _ q fun z => z)]; exact q, fun b ps q => ⟨#[], by rw [upd_ne (hm b _ q fun z => z), q]; simp⟩⟩
  by_cases hbe : b = e
  · subst hbe; exact heo
  · exact ⟨u, k b u hbe q⟩
theorem Un.mono (u : Un fs ex H H1 h h1) (hs : ∀ b ∈ fs, b ∈ fs') (hx : ∀ b ∈ ex, b ∈ ex') : Un fs' ex' H H1 h h1 :=
  ⟨fun b ob q n hb he => u.keep b ob q n (fun z => hb (hs b z)) fun z => he (hx b z), fun _ _ q n _ he => u.any q n fun z => he (hx _ z), fun b ob q n he => u.free b ob q n fun z => he (hx b z), fun b ob q he => u.there b ob q fun z => he (hx b z), u.tups, u.frzs, u.tbls⟩
end

/-! ### the heap without what is tracked -/
def trk (h : Heap) (H : Hp) : List Addr := (List.range h.objs.size).filter fun a => (H a).isSome
def hidT (h : Heap) (H : Hp) : Heap := PySem.W.hideAll h (trk h H)
theorem hidT_size (h : Heap) (H : Hp) : (hidT h H).objs.size = h.objs.size := PySem.W.hideAll_size _ _
theorem hidT_get {h : Heap} {H : Hp} {b : Addr} {o : Obj} (e : h.get? b = some o) (n : H b = none) : (hidT h H).get? b = some o :=
  PySem.W.hideAll_get _ e fun hm => by
    have q : (H b).isSome = true := (List.mem_filter.mp hm).2
    rw [n] at q; simp at q
theorem of_hidT {h : Heap} {H : Hp} {b : Addr} {o : Obj} (e : (hidT h H).get? b = some o) : h.get? b = some o ∧ H b = none := by
  have e' : h.get? b = some o := PySem.W.of_hideAll (trk h H) e
  refine ⟨e', ?_⟩
  cases q : H b with
  | none => rfl
  | some x =>
    have hm : b ∈ trk h H := List.mem_filter.mpr ⟨List.mem_range.mpr (Heap.lt_size e'), by simp [q]⟩
    have z : (hidT h H).get? b = none := PySem.W.hideAll_none (trk h H) hm
    rw [z] at e; cases e

/-! ### OpenK's ledger, filled with every new object but one -/
def allNews (g h : Heap) (L : Addr) : List (Addr × Obj) := (List.range h.objs.size).filterMap fun a => if a = L ∨ (g.get? a).isSome = true then none else (h.get? a).map fun o => (a, o)
theorem mem_allNews {g h : Heap} {L a : Addr} {o : Obj} (h1 : a ≠ L) (h2 : g.get? a = none) (h3 : h.get? a = some o) : (a, o) ∈ allNews g h L :=
  List.mem_filterMap.mpr ⟨a, List.mem_range.mpr (Heap.lt_size h3), by simp [h1, h2, h3]⟩
theorem of_mem_allNews {g h : Heap} {L : Addr} {p : Addr × Obj} (hp : p ∈ allNews g h L) : p.1 ≠ L ∧ g.get? p.1 = none ∧ h.get? p.1 = some p.2 := by
  obtain ⟨b, _, e⟩ := List.mem_filterMap.mp hp
  split at e
  · cases e
  · rename_i hn
    cases q : h.get? b with
    | none => rw [q] at e; simp at e
    | some u =>
      rw [q] at e
      simp only [Option.map_some, Option.some.injEq] at e
      subst e
      refine ⟨fun z => hn (.inl z), ?_, q⟩
      show g.get? b = none
      cases r : g.get? b with
      | none => rfl
      | some v => exact (hn (.inr (by simp [r]))).elim
def rest (g h : Heap) (L d : Addr) : List (Addr × Obj) := (allNews g h L).filter fun p => decide (p.1 ≠ d)
theorem rest_ne {g h : Heap} {L d : Addr} : ∀ p ∈ rest g h L d, p.1 ≠ d := fun p hp => of_decide_eq_true (List.mem_filter.mp hp).2
theorem mem_rest {g h : Heap} {L d a : Addr} {o : Obj} (h1 : a ≠ L) (h2 : g.get? a = none) (h3 : h.get? a = some o) (h4 : a ≠ d) : (a, o) ∈ rest g h L d :=
  List.mem_filter.mpr ⟨mem_allNews h1 h2 h3, decide_eq_true h4⟩
theorem news_all {g h : Heap} {L : Addr} : News g L h (allNews g h L) := fun p hp => let ⟨a, b, c⟩ := of_mem_allNews hp; ⟨c, a, b⟩
theorem news_at {g h : Heap} {L d : Addr} {o : Obj} (h1 : d ≠ L) (h2 : g.get? d = none) (h3 : h.get? d = some o) : News g L h ((d, o) :: rest g h L d) := fun p hp => by
  rcases List.mem_cons.mp hp with rfl | hp
  · exact ⟨h3, h1, h2⟩
  · exact news_all p (List.mem_filter.mp hp).1
/-- behind a rule that changed d alone: all else but the frame is kept -/
theorem kept_of_news {g h h' : Heap} {L d : Addr} {m : Str → Option Value} (k : ∀ b o, g.get? b = some o → h.get? b = some o) (F : Fr g L h' m) (N : News g L h' (rest g h L d)) :
    ∀ b o, b ≠ L → b ≠ d → h.get? b = some o → h'.get? b = some o := fun b o h1 h2 e => by
  cases q : g.get? b with
  | some u =>
    have := k b u q
    rw [e] at this; cases this
    exact F.keep b _ q
  | none => exact (N (b, o) (mem_rest h1 q e h2)).1
end L2

namespace L2
open PySem PySem.Spec PyProof.Rows

/-- the module's facts, over the base: the heap at the law's entry without what is tracked there -/
structure Mod (K : PySem.W.Frag) (mg : Str → Option Value) (base : Heap) : Prop where
  kin : K.In base
  glob : base.Ns mainGlobals mg
  blt : ∃ mb, base.Ns builtinsNs mb ∧ ∀ x : Str, x ≠ "__name__" → mb x = bootBuiltins x
  nolimit : base.NoLimit

/-- the context: a def's body (or a comprehension's block) running. base: fixed through the whole law; s₀, H₀: the entry; outer: the frames whose slots others may change (a def's callers); stack: all frames that run;
   ex: iterators that were made ahead of the entry and are walked here (a comprehension's); fn: the names whose cells were made at the entry (a def: all; a comprehension's block: its own); calm: not within an except suite; pn: pins that every state bears; xe: what is wanted of an exception that leaves the code -/
structure Cx where
  prog : Program
  w : World
  K : PySem.W.Frag
  mg : Str → Option Value
  base : Heap
  A : Around
  N : List Str
  s_0 : Shared
  H_0 : Hp
  env : Env
  outer : List Env
  stack : List Env
  ex : List Addr
  fn : Str → Bool
  calm : Bool
  pn : List (Addr × Obj)
  xe : Value → Shared → Prop
/-- the callers' frames -/
def frs (l : List Env) : List Addr := l.filterMap (·.frame)
abbrev Cx.fs (X : Cx) : List Addr := frs X.outer

def Vis (sc : Scope) (x : Str) : Prop := sc.names.lookup x = some .local ∨ sc.names.lookup x = some .cell ∨ sc.names.lookup x = some .free
def Loc (sc : Scope) (x : Str) : Prop := sc.names.lookup x = some .local ∨ sc.names.lookup x = some .cell
def Look (env : Env) (h : Heap) (m : Str → Option Value) (x : Str) (u : Value) : Prop :=
  (env.kindOf x = some .local ∧ m x = some u) ∨ ((env.kindOf x = some .cell ∨ env.kindOf x = some .free) ∧ ∃ c, env.cells.lookup x = some c ∧ h.IsCell c (some u))

structure Cx.Ok (X : Cx) : Prop where
  mod : Mod X.K X.mg X.base
  kind : X.env.scope.kind = .function
  glob : X.env.globals = mainGlobals
  blt : X.env.builtins = builtinsNs
  above : X.s_0.heap.objs.size ≤ X.env.locals
  inj : ∀ x y c, X.env.cells.lookup x = some c → X.env.cells.lookup y = some c → x = y
  has : ∀ x, (X.env.kindOf x = some .cell ∨ X.env.kindOf x = some .free) → ∃ c, X.env.cells.lookup x = some c
  cab : ∀ x c, X.fn x = true → X.env.cells.lookup x = some c → X.s_0.heap.objs.size ≤ c
  hd : X.calm = true → X.A.handled = none
  frames : X.A.frames = some X.stack
  stk : X.stack = X.outer ∨ (X.stack = X.env :: X.outer ∧ X.env.frame = some X.env.locals)
  exf : ∀ b ∈ X.ex, b ≠ X.env.locals ∧ ∀ x c, X.env.cells.lookup x = some c → c ≠ b
  bs : ∀ b o, X.base.get? b = some o → X.s_0.heap.get? b = some o ∧ X.H_0 b = none
  bsz : X.base.objs.size ≤ X.s_0.heap.objs.size
  noex : ∀ b o, X.base.get? b = some o → b ∉ X.ex
  exfs : ∀ b ∈ X.ex, b ∉ X.fs
  funs : X.s_0.heap.FunFrames X.base X.outer
  frf : ∀ b ∈ X.fs, X.H_0 b = none

structure Inv (X : Cx) (pins : List (Addr × Obj)) (σ : List (Option V)) (H : Hp) (s : Shared) : Prop where
  ok : X.Ok
  os : s.os = X.s_0.os
  bare : AllBare s.gens
  base : Un X.fs X.ex X.H_0 H X.s_0.heap s.heap
  loc : ∃ m, s.heap.Ns X.env.locals m ∧ ∀ (i : Nat) (x : Str) (v : V), X.N[i]? = some x → σ[i]? = some (some v) → Vis X.env.scope x → ∃ u, RelV v u ∧ Look X.env s.heap m x u
  cell : ∀ x c, X.env.cells.lookup x = some c → ∃ v, s.heap.IsCell c v
  free : H X.env.locals = none
  freeC : ∀ x c, X.env.cells.lookup x = some c → H c = none
  pin : ∀ p ∈ X.pn ++ pins, s.heap.get? p.1 = some p.2 ∧ H p.1 = none ∧ p.1 ≠ X.env.locals ∧ p.1 ∉ X.fs ∧ ∀ v, p.2.data ≠ .cell v
  hok : HOk X.prog X.w H s.heap
  len : σ.length = X.N.length

section
variable {X : Cx} {pins : List (Addr × Obj)} {σ : List (Option V)} {H H' : Hp} {s : Shared} {h' : Heap}

theorem Cx.Ok.nofr (ok : X.Ok) {b : Addr} {o : Obj} (e : X.base.get? b = some o) : b ∉ X.fs := fun hb => by
  have := (ok.funs.mem hb).1
  rw [e] at this; cases this
theorem Inv.bs (I : Inv X pins σ H s) : ∀ b o, X.base.get? b = some o → s.heap.get? b = some o ∧ H b = none := fun b o e =>
  ⟨I.base.keep b o (I.ok.bs b o e).1 (I.ok.bs b o e).2 (I.ok.nofr e) (I.ok.noex b o e), I.base.free b o (I.ok.bs b o e).1 (I.ok.bs b o e).2 (I.ok.noex b o e)⟩
theorem Inv.bk (I : Inv X pins σ H s) : ∀ b o, X.base.get? b = some o → s.heap.get? b = some o := fun b o e => (I.bs b o e).1
theorem Inv.mod (I : Inv X pins σ H s) : Mod X.K X.mg X.base := I.ok.mod
theorem Inv.kIn (I : Inv X pins σ H s) : X.K.In s.heap := I.ok.mod.kin.keeps I.bk
theorem Inv.nolimit (I : Inv X pins σ H s) : s.heap.NoLimit := I.ok.mod.nolimit.keeps I.bk
/-- the frame over the base: for OpenK's rules (K.In X.base is I.mod.kin) -/
theorem Inv.fr (I : Inv X pins σ H s) : ∃ m, Fr X.base X.env.locals s.heap m :=
  let ⟨m, hn, _⟩ := I.loc
  ⟨m, hn, I.bk, Nat.le_trans I.ok.bsz I.ok.above⟩
theorem Inv.lt (I : Inv X pins σ H s) : X.env.locals < s.heap.objs.size := let ⟨_, hn, _⟩ := I.loc; hn.lt
theorem Inv.sz (I : Inv X pins σ H s) : X.s_0.heap.objs.size ≤ s.heap.objs.size := Nat.le_trans I.ok.above (Nat.le_of_lt I.lt)
theorem Inv.nofs (I : Inv X pins σ H s) {a : Addr} (h : s.heap.objs.size ≤ a) : a ∉ X.fs := fun hb => by
  obtain ⟨_, o, ho, _⟩ := I.ok.funs.mem hb
  exact absurd (Nat.lt_of_lt_of_le (Heap.lt_size ho) (Nat.le_trans I.sz h)) (Nat.lt_irrefl _)
theorem Inv.cne (I : Inv X pins σ H s) : ∀ x c, X.env.cells.lookup x = some c → c ≠ X.env.locals := fun x c e z => by
  obtain ⟨v, o, ho, hd⟩ := I.cell x c e
  obtain ⟨m, ⟨o', es, ep, ho', hd', _⟩, _⟩ := I.loc
  rw [z, ho'] at ho; cases ho; rw [hd'] at hd; cases hd
theorem Inv.funs (I : Inv X pins σ H s) : s.heap.FunFrames X.base X.outer := by
  have all : ∀ (l : List Env), (∀ b ∈ frs l, b ∈ X.fs) → X.s_0.heap.FunFrames X.base l → s.heap.FunFrames X.base l := by
    intro l
    induction l with
    | nil => intro _ _; trivial
    | cons env r ih =>
      intro hs hl
      obtain ⟨hk, ⟨L, o, hf, hn, ho, hd⟩, hr⟩ := hl
      have hL : L ∈ X.fs := hs L (by unfold frs; rw [List.filterMap_cons, hf]; exact List.mem_cons_self)
      obtain ⟨sl, e⟩ := I.base.slot L o ho (I.ok.frf L hL) hL fun z => I.ok.exfs L z hL
      exact ⟨hk, ⟨L, _, hf, hn, e, hd⟩, ih (fun b hb => hs b (by unfold frs; rw [List.filterMap_cons, hf]; exact List.mem_cons_of_mem _ hb)) hr⟩
  exact all X.outer (fun _ hb => hb) I.ok.funs

/-- the frames that run, for a call -/
theorem Inv.stack (I : Inv X pins σ H s) : s.heap.FunFrames X.base X.stack := by
  rcases I.ok.stk with e | ⟨e, hf⟩
  · rw [e]; exact I.funs
  · rw [e]
    obtain ⟨m, hn, _⟩ := I.loc
    refine .cons (by rw [I.ok.kind]; decide) hf hn ?_ I.funs
    exact Heap.get?_none_of_le (Nat.le_trans I.ok.bsz I.ok.above)
theorem Inv.stkSub (I : Inv X pins σ H s) : ∀ b ∈ frs X.stack, b ∈ X.env.locals :: X.fs := fun b hb => by
  rcases I.ok.stk with e | ⟨e, hf⟩
  · rw [e] at hb; exact List.mem_cons_of_mem _ hb
  · rw [e] at hb
    unfold frs at hb
    rw [List.filterMap_cons, hf] at hb
    exact hb
theorem Inv.stkFree (I : Inv X pins σ H s) : ∀ b ∈ frs X.stack, H b = none := fun b hb => by
  rcases List.mem_cons.mp (I.stkSub b hb) with e | hb
  · rw [e]; exact I.free
  · obtain ⟨_, o, ho, _⟩ := I.ok.funs.mem hb
    exact I.base.free b o ho (I.ok.frf b hb) fun z => I.ok.exfs b z hb

/-- THE STEP: the untracked objects but the frame and the records at ch are kept (the callers' frames up to slots), the frame's map is kept, the new abstract heap is held -/
theorem Inv.step {g' : Array GenState} {t' : Nat} {d' : Drawn} {ch : List Addr} (I : Inv X pins σ H s)
    (hch : ∀ b ∈ ch, (b ∈ X.ex ∨ X.s_0.heap.objs.size ≤ b) ∧ b ≠ X.env.locals ∧ (∀ x c, X.env.cells.lookup x = some c → c ≠ b) ∧ ∀ p ∈ X.pn ++ pins, p.1 ≠ b)
    (keep : ∀ b o, b ≠ X.env.locals → b ∉ X.fs → b ∉ ch → s.heap.get? b = some o → H b = none → h'.get? b = some o)
    (slot : ∀ b o, b ≠ X.env.locals → b ∈ X.fs → b ∉ ch → s.heap.get? b = some o → H b = none → ∃ sl, h'.get? b = some { o with slots := sl }) (free : ∀ b o, b ∉ ch → s.heap.get? b = some o → H b = none → H' b = none)
    (there : ∀ b o, b ∉ ch → s.heap.get? b = some o → ∃ o', h'.get? b = some o')
    (tups : ∀ b xs, H b = some (.tup xs) → H' b = some (.tup xs)) (frzs : ∀ b o u, H b = some (.frz o u) → H' b = some (.frz o u)) (tbls : ∀ b ps, H b = some (.tbl ps) → ∃ more, H' b = some (.tbl (ps ++ more)))
    (ns : ∀ m, s.heap.Ns X.env.locals m → h'.Ns X.env.locals m) (hok : HOk X.prog X.w H' h') (hg : AllBare g') :
    Inv X pins σ H' { s with heap := h', gens := g', drawn := d', toks := t' } := by
  have neL : ∀ b o, X.s_0.heap.get? b = some o → b ≠ X.env.locals := fun b o e => Nat.ne_of_lt (Nat.lt_of_lt_of_le (Heap.lt_size e) I.ok.above)
  have neC : ∀ b o, X.s_0.heap.get? b = some o → b ∉ X.ex → b ∉ ch := fun b o e hx hb => by
    rcases (hch b hb).1 with z | z
    · exact hx z
    · exact absurd (Nat.lt_of_lt_of_le (Heap.lt_size e) z) (Nat.lt_irrefl _)
  have cellK : ∀ x c, X.env.cells.lookup x = some c → ∀ v, s.heap.IsCell c v → h'.IsCell c v := fun x c e v ⟨o, ho, hd⟩ => by
    have nch : c ∉ ch := fun z => (hch c z).2.2.1 x c e rfl
    by_cases hc : c ∈ X.fs
    · obtain ⟨sl, q⟩ := slot c o (I.cne x c e) hc nch ho (I.freeC x c e)
      exact ⟨_, q, hd⟩
    · exact ⟨o, keep c o (I.cne x c e) hc nch ho (I.freeC x c e), hd⟩
  refine ⟨I.ok, I.os, hg, ⟨fun b o e n hb hx => ?_, fun b o e n hb hx => ?_, fun b o e n hx => ?_, fun b o e hx => ?_, fun b xs e => tups b xs (I.base.tups b xs e), fun b o xs e => frzs b o xs (I.base.frzs b o xs e), fun b ps e => ?_⟩, ?_, fun x c e => ?_, ?_, fun x c e => ?_, fun p hp => ?_, hok, I.len⟩
  · exact keep b o (neL b o e) hb (neC b o e hx) (I.base.keep b o e n hb hx) (I.base.free b o e n hx)
  · obtain ⟨sl, e1⟩ := I.base.slot b o e n hb hx
    obtain ⟨sl', e2⟩ := slot b _ (neL b o e) hb (neC b o e hx) e1 (I.base.free b o e n hx)
    exact ⟨sl', e2⟩
  · obtain ⟨o', e1⟩ := I.base.there b o e hx
    exact free b o' (neC b o e hx) e1 (I.base.free b o e n hx)
  · obtain ⟨o', e1⟩ := I.base.there b o e hx
    exact there b o' (neC b o e hx) e1
  · obtain ⟨m1, e1⟩ := I.base.tbls b ps e
    obtain ⟨m2, e2⟩ := tbls b _ e1
    exact ⟨m1 ++ m2, by rw [e2, Array.append_assoc]⟩
  · obtain ⟨m, hn, hl⟩ := I.loc
    refine ⟨m, ns m hn, fun i x v e1 e2 e3 => ?_⟩
    obtain ⟨u, r, l⟩ := hl i x v e1 e2 e3
    refine ⟨u, r, ?_⟩
    rcases l with l | ⟨k, c, e, z⟩
    · exact .inl l
    · exact .inr ⟨k, c, e, cellK x c e _ z⟩
  · obtain ⟨v, z⟩ := I.cell x c e
    exact ⟨v, cellK x c e v z⟩
  · obtain ⟨m, ⟨o, _, _, ho, _⟩, _⟩ := I.loc
    exact free _ o (fun z => (hch _ z).2.1 rfl) ho I.free
  · obtain ⟨v, o, ho, hd⟩ := I.cell x c e
    exact free c o (fun z => (hch c z).2.2.1 x c e rfl) ho (I.freeC x c e)
  · obtain ⟨e, n, ne, nf, d⟩ := I.pin p hp
    have nch : p.1 ∉ ch := fun z => (hch p.1 z).2.2.2 p hp rfl
    exact ⟨keep p.1 p.2 ne nf nch e n, free p.1 p.2 nch e n, ne, nf, d⟩
/-- .. where the frame's own object is kept too -/
theorem Inv.un {t' : Nat} (I : Inv X pins σ H s) (u : Un X.fs [] H H' s.heap h') (hok : HOk X.prog X.w H' h') : Inv X pins σ H' { s with heap := h', toks := t' } := by
  obtain ⟨m, ⟨o, es, ep, ho, r⟩, _⟩ := id I.loc
  obtain ⟨sl, hL⟩ := u.any ho I.free (by simp)
  exact I.step (g' := s.gens) (d' := s.drawn) (ch := []) (fun _ z => nomatch z) (fun b o _ hb _ e n => u.keep b o e n hb (by simp)) (fun b o _ hb _ e n => u.slot b o e n hb (by simp)) (fun b o _ e n => u.free b o e n (by simp)) (fun b o _ e => u.there b o e (by simp)) u.tups u.frzs u.tbls (fun m' hm => by
    obtain ⟨o', es', ep', ho', r'⟩ := hm
    rw [ho] at ho'; cases ho'
    exact ⟨_, es', ep', hL, r'⟩) hok I.bare
/-- behind a call (or a comprehension's block): the slots of this frame may have changed too, the records at ch may have turned -/
theorem Inv.call {g' : Array GenState} {t' : Nat} {d' : Drawn} {ch : List Addr} (I : Inv X pins σ H s) (u : Un (frs X.stack) ch H H' s.heap h') (hok : HOk X.prog X.w H' h') (hg : AllBare g')
    (hch : ∀ b ∈ ch, (b ∈ X.ex ∨ X.s_0.heap.objs.size ≤ b) ∧ b ≠ X.env.locals ∧ (∀ x c, X.env.cells.lookup x = some c → c ≠ b) ∧ ∀ p ∈ X.pn ++ pins, p.1 ≠ b) :
    Inv X pins σ H' { s with heap := h', gens := g', drawn := d', toks := t' } := by
  obtain ⟨m, ⟨o, es, ep, ho, r⟩, _⟩ := id I.loc
  obtain ⟨sl, hL⟩ := u.any ho I.free fun z => (hch _ z).2.1 rfl
  exact I.step (ch := ch) hch (fun b o hL hb hc e n => u.keep b o e n (fun z => (List.mem_cons.mp (I.stkSub b z)).elim hL hb) hc) (fun b o _ _ hc e n => u.any e n hc) (fun b o hc e n => u.free b o e n hc) (fun b o hc e => u.there b o e hc) u.tups u.frzs u.tbls (fun m' hm => by
    obtain ⟨o', es', ep', ho', r'⟩ := hm
    rw [ho] at ho'; cases ho'
    exact ⟨_, es', ep', hL, r'⟩) hok hg
/-- an untracked record of ours (an iterator) has turned -/
theorem Inv.turned {t' : Nat} {it : Addr} (I : Inv X pins σ H s) (k : ∀ b o, b ≠ it → s.heap.get? b = some o → h'.get? b = some o) (hn : H it = none) (hL : it ≠ X.env.locals)
    (h1 : it ∈ X.ex ∨ X.s_0.heap.objs.size ≤ it) (h2 : ∀ x c, X.env.cells.lookup x = some c → c ≠ it) (h3 : ∀ p ∈ X.pn ++ pins, p.1 ≠ it) : Inv X pins σ H { s with heap := h', toks := t' } := by
  have nit : ∀ b u, H b = some u → b ≠ it := fun b u e z => by rw [z, hn] at e; cases e
  refine I.step (g' := s.gens) (d' := s.drawn) (ch := [it]) (fun b hb => ?_) (fun b o _ _ hc e _ => k b o (fun z => hc (by simp [z])) e) (fun b o _ _ hc e _ => ⟨o.slots, k b o (fun z => hc (by simp [z])) e⟩) (fun _ _ _ _ n => n)
    (fun b o hc e => ⟨o, k b o (fun z => hc (by simp [z])) e⟩) (fun _ _ e => e) (fun _ _ _ e => e) (fun b ps e => ⟨#[], by rw [e]; simp⟩) (fun m hm => ?_) (fun b u e => ?_) I.bare
  · have e : b = it := by simpa using hb
    subst e
    exact ⟨h1, hL, h2, h3⟩
  · obtain ⟨o, es, ep, ho, r⟩ := hm
    exact ⟨o, es, ep, k _ o (Ne.symm hL) ho, r⟩
  · refine (I.hok b u e).stay (fun c v hc q => k c v ?_ q) (fun _ q => q) fun _ _ q => q
    rcases hc with z | z
    · rw [z]; exact nit b u e
    · exact nit c _ z
theorem Inv.tok (I : Inv X pins σ H s) (t : Nat) : Inv X pins σ H { s with toks := t } := I.un (h' := s.heap) (t' := t) Un.refl I.hok
/-- all objects kept -/
theorem Inv.kept {t' : Nat} (I : Inv X pins σ H s) (k : ∀ b u, s.heap.get? b = some u → h'.get? b = some u) : Inv X pins σ H { s with heap := h', toks := t' } := I.un (Un.kept k) (I.hok.kept k)
/-- a new object laid and tracked -/
theorem Inv.laid {a : Addr} {o : HO} {t' : Nat} (I : Inv X pins σ H s) (k : ∀ b u, s.heap.get? b = some u → h'.get? b = some u) (hp : s.heap.objs.size ≤ a) (new : ObjOk X.prog X.w (upd H a o) h' a o) :
    Inv X pins σ (upd H a o) { s with heap := h', toks := t' } := I.un (Un.laid k hp (I.hok.fresh hp)) (I.hok.laid k hp new)
/-- an object written -/
theorem Inv.write {x e : Addr} {o : HO} {t' : Nat} (I : Inv X pins σ H s) (mu : Mut (H x)) (he : e = x ∨ H e = some (.own x)) (k : ∀ b u, b ≠ e → s.heap.get? b = some u → h'.get? b = some u) (heo : ∃ u, h'.get? e = some u)
    (new : ObjOk X.prog X.w (upd H x o) h' x o) : Inv X pins σ (upd H x o) { s with heap := h', toks := t' } := I.un (Un.write mu he k heo) (I.hok.write mu he k heo new)
/-- forgetting slots, pins -/
theorem Inv.weak {σ' : List (Option V)} (I : Inv X pins σ H s) (hl : σ'.length = σ.length) (w : ∀ (i : Nat) v, σ'[i]? = some (some v) → σ[i]? = some (some v)) : Inv X pins σ' H s :=
  ⟨I.ok, I.os, I.bare, I.base, let ⟨m, hn, hl'⟩ := I.loc; ⟨m, hn, fun i x v e1 e2 e3 => hl' i x v e1 (w i v e2) e3⟩, I.cell, I.free, I.freeC, I.pin, I.hok, hl.trans I.len⟩
theorem Inv.pins_of {pins' : List (Addr × Obj)} (I : Inv X pins σ H s) (h : ∀ p ∈ pins', s.heap.get? p.1 = some p.2 ∧ H p.1 = none ∧ p.1 ≠ X.env.locals ∧ p.1 ∉ X.fs ∧ ∀ v, p.2.data ≠ .cell v) : Inv X pins' σ H s :=
  ⟨I.ok, I.os, I.bare, I.base, I.loc, I.cell, I.free, I.freeC, fun p hp => (List.mem_append.mp hp).elim (fun z => I.pin p (List.mem_append_left _ z)) (h p), I.hok, I.len⟩

theorem nodup_ix {N : List Str} (hN : N.Nodup) {i j : Nat} {x : Str} (a : N[i]? = some x) (b : N[j]? = some x) : i = j := by
  obtain ⟨h1, e1⟩ := List.getElem?_eq_some_iff.mp a
  obtain ⟨h2, e2⟩ := List.getElem?_eq_some_iff.mp b
  exact (List.getElem_inj hN).mp (e1.trans e2.symm)

/-- a name is stored; what changed -/
theorem store_ok2 {M : Model} {A : Around} {E : Value → Shared → Prop} {i : Nat} {x : Str} {v : V} {u : Value} {Q : Unit → Shared → Prop} (I : Inv X pins σ H s) (hN : X.N.Nodup) (hi : X.N[i]? = some x) (hx : Loc X.env.scope x) (r : RelV v u)
    (h : ∀ s', Inv X pins (σ.set i (some v)) H s' → (∃ a, Heap.SameBut a s.heap s'.heap ∧ (a = X.env.locals ∨ X.env.cells.lookup x = some a)) → Q () s') (hf : X.fn x = true ∨ X.env.scope.names.lookup x = some .local := by first | exact .inl rfl | exact .inr rfl | assumption) : wpAny M A (storeName X.env x u) Q E s := by
  obtain ⟨m, hn, hl⟩ := id I.loc
  have hcls : (X.env.scope.kind == .class || (X.env.scope.kind == .module && X.env.locals != X.env.globals)) = false := by rw [I.ok.kind]; rfl
  have hiσ : i < σ.length := by rw [I.len]; exact (List.getElem?_eq_some_iff.mp hi).1
  have cne := I.cne
  have tracked : ∀ {a : Addr} {h' : Heap}, (∃ o, s.heap.get? a = some o ∧ H a = none) → Heap.SameBut a s.heap h' → HOk X.prog X.w H h' := fun {a h'} ha hs b ob e => by
    obtain ⟨_, _, hfree⟩ := ha
    refine (I.hok b ob e).stay (fun c w' hc q => (hs.2 c ?_).trans q) (fun _ q => q) fun _ _ q => q
    rintro rfl
    rcases hc with rfl | hc
    · rw [hfree] at e; cases e
    · rw [hfree] at hc; cases hc
  rcases hx with hk | hk
  · refine wpAny_storeName_local hk hn (fun h' hn' hs => ?_) hcls
    obtain ⟨oL, _, _, hoL, _⟩ := id hn
    refine h _ ⟨I.ok, I.os, I.bare, ⟨fun b o e n hb hx => ?_, fun b o e n hb hx => ?_, I.base.free, fun b o e hx => ?_, I.base.tups, I.base.frzs, I.base.tbls⟩, ⟨_, hn', fun j y v' e1 e2 e3 => ?_⟩, fun y c e => ?_, I.free, I.freeC, fun p hp => ?_, tracked ⟨oL, hoL, I.free⟩ hs, by simpa using I.len⟩ ⟨_, hs, .inl rfl⟩
    · exact (hs.2 b (Nat.ne_of_lt (Nat.lt_of_lt_of_le (Heap.lt_size e) I.ok.above))).trans (I.base.keep b o e n hb hx)
    · obtain ⟨sl, e1⟩ := I.base.slot b o e n hb hx
      exact ⟨sl, (hs.2 b (Nat.ne_of_lt (Nat.lt_of_lt_of_le (Heap.lt_size e) I.ok.above))).trans e1⟩
    · obtain ⟨o', e1⟩ := I.base.there b o e hx
      exact ⟨o', (hs.2 b (Nat.ne_of_lt (Nat.lt_of_lt_of_le (Heap.lt_size e) I.ok.above))).trans e1⟩
    · by_cases hj : j = i
      · subst hj
        rw [hi] at e1; cases e1
        rw [List.getElem?_set_self hiσ] at e2
        cases e2
        exact ⟨u, r, .inl ⟨hk, by simp⟩⟩
      · rw [List.getElem?_set_ne (Ne.symm hj)] at e2
        obtain ⟨u', r', q⟩ := hl j y v' e1 e2 e3
        refine ⟨u', r', ?_⟩
        rcases q with ⟨k, e⟩ | ⟨k, c, e, z⟩
        · refine .inl ⟨k, ?_⟩
          have : y ≠ x := fun e => hj (nodup_ix hN e1 (e ▸ hi))
          simp [this, e]
        · exact .inr ⟨k, c, e, z.sameBut hs (cne y c e)⟩
    · obtain ⟨w', z⟩ := I.cell y c e
      exact ⟨w', z.sameBut hs (cne y c e)⟩
    · obtain ⟨e, n, ne, nf, d⟩ := I.pin p hp
      exact ⟨(hs.2 p.1 ne).trans e, n, ne, nf, d⟩
  · have hfn : X.fn x = true := by
      rcases hf with z | z
      · exact z
      · rw [z] at hk; cases hk
    obtain ⟨c, hc⟩ := I.ok.has x (.inl hk)
    obtain ⟨w', z⟩ := I.cell x c hc
    refine wpAny_storeName_cell I.ok.kind hk hc z (fun h' hc' hs => ?_)
    obtain ⟨oc, hoc, hocd⟩ := id z
    refine h { s with heap := h' } ⟨I.ok, I.os, I.bare, ⟨fun b o e n hb hx => ?_, fun b o e n hb hx => ?_, I.base.free, fun b o e hx => ?_, I.base.tups, I.base.frzs, I.base.tbls⟩, ⟨m, hn.sameBut hs (Ne.symm (cne x c hc)), fun j y v' e1 e2 e3 => ?_⟩, fun y c' e => ?_, I.free, I.freeC, fun p hp => ?_, tracked ⟨oc, hoc, I.freeC x c hc⟩ hs, by simpa using I.len⟩ ⟨c, hs, .inr hc⟩
    · exact (hs.2 b (Nat.ne_of_lt (Nat.lt_of_lt_of_le (Heap.lt_size e) (I.ok.cab x c hfn hc)))).trans (I.base.keep b o e n hb hx)
    · obtain ⟨sl, e1⟩ := I.base.slot b o e n hb hx
      exact ⟨sl, (hs.2 b (Nat.ne_of_lt (Nat.lt_of_lt_of_le (Heap.lt_size e) (I.ok.cab x c hfn hc)))).trans e1⟩
    · obtain ⟨o', e1⟩ := I.base.there b o e hx
      exact ⟨o', (hs.2 b (Nat.ne_of_lt (Nat.lt_of_lt_of_le (Heap.lt_size e) (I.ok.cab x c hfn hc)))).trans e1⟩
    · by_cases hj : j = i
      · subst hj
        rw [hi] at e1; cases e1
        rw [List.getElem?_set_self hiσ] at e2
        cases e2
        exact ⟨u, r, .inr ⟨.inl hk, c, hc, hc'⟩⟩
      · rw [List.getElem?_set_ne (Ne.symm hj)] at e2
        obtain ⟨u', r', q⟩ := hl j y v' e1 e2 e3
        refine ⟨u', r', ?_⟩
        rcases q with q | ⟨k, c', e, z'⟩
        · exact .inl q
        · refine .inr ⟨k, c', e, z'.sameBut hs ?_⟩
          rintro rfl
          exact hj (nodup_ix hN e1 (I.ok.inj _ _ _ e hc ▸ hi))
    · by_cases hcc : c' = c
      · subst hcc; exact ⟨_, hc'⟩
      · obtain ⟨w2, z2⟩ := I.cell y c' e
        exact ⟨w2, z2.sameBut hs hcc⟩
    · obtain ⟨e, n, ne, nf, d⟩ := I.pin p hp
      refine ⟨(hs.2 p.1 ?_).trans e, n, ne, nf, d⟩
      intro q
      rw [q, hoc] at e
      have q' : oc = p.2 := Option.some.inj e
      exact d w' (by rw [← q']; exact hocd)
theorem store_ok {M : Model} {A : Around} {E : Value → Shared → Prop} {i : Nat} {x : Str} {v : V} {u : Value} {Q : Unit → Shared → Prop} (I : Inv X pins σ H s) (hN : X.N.Nodup) (hi : X.N[i]? = some x) (hx : Loc X.env.scope x) (r : RelV v u)
    (h : ∀ s', Inv X pins (σ.set i (some v)) H s' → Q () s') (hf : X.fn x = true ∨ X.env.scope.names.lookup x = some .local := by first | exact .inl rfl | exact .inr rfl | assumption) : wpAny M A (storeName X.env x u) Q E s :=
  store_ok2 I hN hi hx r (fun s' I' _ => h s' I') hf
/-- behind a call or a block, the state as it is -/
theorem Inv.call' {s' : Shared} {ch : List Addr} (I : Inv X pins σ H s) (ho : s'.os = s.os) (u : Un (frs X.stack) ch H H' s.heap s'.heap) (hok : HOk X.prog X.w H' s'.heap) (hg : AllBare s'.gens)
    (hch : ∀ b ∈ ch, (b ∈ X.ex ∨ X.s_0.heap.objs.size ≤ b) ∧ b ≠ X.env.locals ∧ (∀ x c, X.env.cells.lookup x = some c → c ≠ b) ∧ ∀ p ∈ X.pn ++ pins, p.1 ≠ b) : Inv X pins σ H' s' := by
  obtain ⟨h', g', d', t', o'⟩ := s'
  have e : o' = s.os := ho
  subst e
  exact I.call (g' := g') (t' := t') (d' := d') u hok hg hch
end

/-! ### the judgements -/
/-- an exception: its class, its own dict's address (where it has one), the abstract heap behind it -/
abbrev XK := Value → Option Addr → Hp → Prop
abbrev St := List (Option V)
abbrev VK := V → Hp → Prop
/-- an expression's reading; a test's; an argument list's -/
abbrev TE := St → Hp → VK → Prop
abbrev TT := St → Hp → (Bool → Hp → Prop) → Prop
abbrev TA := St → Hp → (List V → Hp → Prop) → Prop
/-- what is wanted behind a statement -/
structure Ends where
  nx : St → Hp → Prop
  rt : VK
  bk : St → Hp → Prop := fun _ _ => False
  ct : St → Hp → Prop := fun _ _ => False
abbrev TS := Ends → St → Hp → Prop

def EP (X : Cx) (pins : List (Addr × Obj)) (σ : St) (Q : VK) (u : Value) (s' : Shared) : Prop := ∃ v H', Inv X pins σ H' s' ∧ RelV v u ∧ Q v H'
def TP (X : Cx) (pins : List (Addr × Obj)) (σ : St) (Q : Bool → Hp → Prop) (b : Bool) (s' : Shared) : Prop := ∃ H', Inv X pins σ H' s' ∧ Q b H'
def AP (X : Cx) (pins : List (Addr × Obj)) (σ : St) (Q : List V → Hp → Prop) (us : List Value) (s' : Shared) : Prop := ∃ vs H', Inv X pins σ H' s' ∧ Vals vs us ∧ Q vs H'
def SP (X : Cx) (pins : List (Addr × Obj)) (D : Ends) (f : Flow) (s' : Shared) : Prop :=
  match f with
  | .next => ∃ σ' H', Inv X pins σ' H' s' ∧ D.nx σ' H'
  | .brk => ∃ σ' H', Inv X pins σ' H' s' ∧ D.bk σ' H'
  | .cont => ∃ σ' H', Inv X pins σ' H' s' ∧ D.ct σ' H'
  | .ret u => ∃ v σ' H', Inv X pins σ' H' s' ∧ RelV v u ∧ D.rt v H'

def PE (X : Cx) (e : Expr) (t : TE) : Prop :=
  ∀ (pins : List (Addr × Obj)) (s : Shared) (σ : St) (H : Hp) (Q : VK), Inv X pins σ H s → t σ H Q → wpAny (model X.prog X.w) X.A (eval e X.env) (EP X pins σ Q) X.xe s
def PT (X : Cx) (e : Expr) (t : TT) : Prop :=
  ∀ (pins : List (Addr × Obj)) (s : Shared) (σ : St) (H : Hp) (Q : Bool → Hp → Prop), Inv X pins σ H s → t σ H Q → wpAny (model X.prog X.w) X.A (isTrue e X.env (eval e X.env)) (TP X pins σ Q) X.xe s
/-- a test whatever its 'whole' is (and, or) -/
def PW (X : Cx) (e : Expr) (t : TT) : Prop :=
  ∀ (whole : Sem Value) (pins : List (Addr × Obj)) (s : Shared) (σ : St) (H : Hp) (Q : Bool → Hp → Prop), Inv X pins σ H s → t σ H Q → wpAny (model X.prog X.w) X.A (isTrue e X.env whole) (TP X pins σ Q) X.xe s
theorem PW.pt {X : Cx} {e : Expr} {t : TT} (h : PW X e t) : PT X e t := h _
/-- an argument list (no star), from the left -/
def PA (X : Cx) (es : List Expr) (t : TA) : Prop :=
  ∀ (pos : Pos) (pins : List (Addr × Obj)) (s : Shared) (σ : St) (H : Hp) (Q : List V → Hp → Prop), Inv X pins σ H s → t σ H Q → wpAny (model X.prog X.w) X.A (spliced (backTo pos (starEach es X.env))) (AP X pins σ Q) X.xe s
def PS (X : Cx) (st : Stmt) (t : TS) : Prop :=
  ∀ (pins : List (Addr × Obj)) (s : Shared) (σ : St) (H : Hp) (D : Ends), Inv X pins σ H s → t D σ H → wpAny (model X.prog X.w) X.A (exec st X.env) (SP X pins D) X.xe s
def PSs (X : Cx) (st : List Stmt) (t : TS) : Prop :=
  ∀ (pins : List (Addr × Obj)) (s : Shared) (σ : St) (H : Hp) (D : Ends), Inv X pins σ H s → t D σ H → wpAny (model X.prog X.w) X.A (execs st X.env) (SP X pins D) X.xe s
/-- weaken the end -/
theorem thn {α : Type} {t : Sem α} {Q Q' : α → Shared → Prop} {M : Model} {A : Around} {E : Value → Shared → Prop} {s : Shared} (h : wpAny M A t Q E s) (hQ : ∀ a s, Q a s → Q' a s) : wpAny M A t Q' E s := wpAny_mono h hQ fun _ _ x => x
end L2

namespace L2
open PySem PySem.Spec PyProof.Rows
section
variable {X : Cx}

/-- two expressions in a row -/
theorem bin {a b : Expr} {ta tb : TE} (ha : PE X a ta) (hb : PE X b tb) {pins : List (Addr × Obj)} {s : Shared} {σ : St} {H : Hp} {R : V → V → Hp → Prop} (I : Inv X pins σ H s) (h : ta σ H fun x H1 => tb σ H1 fun y H2 => R x y H2)
    {α : Type} {Q : α → Shared → Prop} {f : Value → Value → Sem α}
    (hf : ∀ v u s2 x y H2, Inv X pins σ H2 s2 → RelV x v → RelV y u → R x y H2 → wpAny (model X.prog X.w) X.A (f v u) Q X.xe s2) :
    wpAny (model X.prog X.w) X.A (eval a X.env) (fun v s₁ => wpAny (model X.prog X.w) X.A (eval b X.env) (fun u s₂ => wpAny (model X.prog X.w) X.A (f v u) Q X.xe s₂) X.xe s₁) X.xe s := by
  refine thn (ha pins s σ H _ I h) fun v s1 ⟨x, H1, I1, r1, q1⟩ => ?_
  refine thn (hb pins s1 σ H1 _ I1 q1) fun u s2 ⟨y, H2, I2, r2, q2⟩ => ?_
  exact hf v u s2 x y H2 I2 r1 r2 q2

/-! ### names and constants -/
def tVar (i : Nat) : TE := fun σ H Q => ∃ v, σ[i]? = some (some v) ∧ Q v H
def tC (v : V) : TE := fun _ H Q => Q v H
theorem pe_var {i : Nat} {x : Str} {pos : Pos} (hN : X.N[i]? = some x) (hv : Vis X.env.scope x) (hd : (x == ("__debug__" : Str)) = false := by decide) (hcd : (x == ("__classdict__" : Str)) = false := by decide) : PE X (.Name x pos) (tVar i) := by
  intro pins s σ H Q I h
  obtain ⟨v, e, h⟩ := h
  obtain ⟨m, hn, hl⟩ := I.loc
  obtain ⟨u, r, l⟩ := hl i x v hN e hv
  have fin : EP X pins σ Q u s := ⟨v, H, I, r, h⟩
  rcases l with ⟨hk, hm⟩ | ⟨hk, c, hc, hcell⟩
  · exact wpAny_Name (wpAny_loadName_local I.ok.kind hk hn hm fin) hd
  · rcases hk with hk | hk
    · exact wpAny_Name (wpAny_loadName_cell I.ok.kind hk hc hcell fin) hd
    · exact wpAny_Name (wpAny_loadName_free I.ok.kind hk hc hcell fin hcd) hd
theorem pe_int {i j pos} : PE X (.Constant (.int i) j pos) (tC (.int i)) := fun _ _ _ H _ I h => wpAny_Constant_int ⟨.int i, H, I.tok _, ⟨_, rfl⟩, h⟩
theorem pe_bl {b j pos} : PE X (.Constant (.bool b) j pos) (tC (.bl b)) := fun _ _ _ H _ I h => Constant_bool ⟨.bl b, H, I, rfl, h⟩
theorem pe_non {j pos} : PE X (.Constant .none j pos) (tC .non) := fun _ _ _ H _ I h => Constant_none ⟨.non, H, I, rfl, h⟩
theorem pe_str {x j pos} : PE X (.Constant (.str x) j pos) (tC (.str x)) := fun _ _ _ H _ I h => Calls.Constant_str ⟨.str x, H, I.tok _, ⟨_, rfl⟩, h⟩

/-- a global name of the def -/
def Gl (X : Cx) (x : Str) : Prop := X.env.kindOf x = some .globalImplicit
theorem ld_glob {E : Value → Shared → Prop} {pins : List (Addr × Obj)} {s : Shared} {σ : St} {H : Hp} {x : Str} {u : Value} {pos : Pos} {Q : Value → Shared → Prop} (I : Inv X pins σ H s) (hg : Gl X x) (hm : X.mg x = some u) (h : Q u s)
    (hd : (x == ("__debug__" : Str)) = false := by decide) : wpAny (model X.prog X.w) X.A (eval (.Name x pos) X.env) Q E s :=
  Calls.Name_function_global I.ok.kind hg (Calls.loadGlobal_global (by rw [I.ok.glob]; exact I.mod.glob.keeps I.bk) hm h) hd
theorem ld_blt {E : Value → Shared → Prop} {pins : List (Addr × Obj)} {s : Shared} {σ : St} {H : Hp} {x : Str} {u : Value} {pos : Pos} {Q : Value → Shared → Prop} (I : Inv X pins σ H s) (hg : Gl X x) (hm : X.mg x = none) (hv : bootBuiltins x = some u) (h : Q u s)
    (hn : x ≠ "__name__" := by decide) (hd : (x == ("__debug__" : Str)) = false := by decide) : wpAny (model X.prog X.w) X.A (eval (.Name x pos) X.env) Q E s := by
  obtain ⟨mb, h1, h2⟩ := I.mod.blt
  exact Calls.Name_function_global I.ok.kind hg (Calls.loadGlobal_builtin (by rw [I.ok.glob]; exact I.mod.glob.keeps I.bk) hm (by rw [I.ok.blt]; exact h1.keeps I.bk) ((h2 x hn).trans hv) h) hd
/-- a module's constant, a class, a function, as a value -/
theorem pe_glob {x : Str} {v : V} {u : Value} {pos : Pos} (hg : Gl X x) (hm : X.mg x = some u) (r : RelV v u) (hd : (x == ("__debug__" : Str)) = false := by decide) : PE X (.Name x pos) (tC v) :=
  fun _ _ _ H _ I h => ld_glob I hg hm ⟨v, H, I, r, h⟩ hd
theorem pe_bltn {x : Str} {v : V} {u : Value} {pos : Pos} (hg : Gl X x) (hm : X.mg x = none) (hv : bootBuiltins x = some u) (r : RelV v u) (hn : x ≠ "__name__" := by decide) (hd : (x == ("__debug__" : Str)) = false := by decide) : PE X (.Name x pos) (tC v) :=
  fun _ _ _ H _ I h => ld_blt I hg hm hv ⟨v, H, I, r, h⟩ hn hd

/-! ### arithmetic -/
/-- two ints -/
def t2I (ta tb : TE) (k : Int → Int → Hp → Prop) : St → Hp → Prop := fun σ H => ta σ H fun x H1 => tb σ H1 fun y H2 => ∃ i j, x = .int i ∧ y = .int j ∧ k i j H2
def tAdd (ta tb : TE) : TE := fun σ H Q => t2I ta tb (fun i j H2 => Q (.int (i + j)) H2) σ H
def tSub (ta tb : TE) : TE := fun σ H Q => t2I ta tb (fun i j H2 => Q (.int (i - j)) H2) σ H
/-- the left factor below 2^64 -/
def tMul (ta tb : TE) : TE := fun σ H Q => t2I ta tb (fun i j H2 => (-(2 ^ 64) < i ∧ i < 2 ^ 64) ∧ Q (.int (i * j)) H2) σ H
variable {a b : Expr} {ta tb : TE} {pos : Pos}
theorem pe_add (ha : PE X a ta) (hb : PE X b tb) : PE X (.BinOp a .Add b pos) (tAdd ta tb) := by
  intro pins s σ H Q I h
  refine wpAny_BinOp (bin ha hb I h fun v u s2 x y H2 I2 rx ry q => ?_)
  obtain ⟨i, j, rfl, rfl, q⟩ := q
  obtain ⟨t, rfl⟩ := rx
  obtain ⟨t', rfl⟩ := ry
  exact add_int ⟨.int _, H2, I2.tok _, ⟨_, rfl⟩, q⟩
theorem pe_sub (ha : PE X a ta) (hb : PE X b tb) : PE X (.BinOp a .Sub b pos) (tSub ta tb) := by
  intro pins s σ H Q I h
  refine wpAny_BinOp (bin ha hb I h fun v u s2 x y H2 I2 rx ry q => ?_)
  obtain ⟨i, j, rfl, rfl, q⟩ := q
  obtain ⟨t, rfl⟩ := rx
  obtain ⟨t', rfl⟩ := ry
  exact sub_int ⟨.int _, H2, I2.tok _, ⟨_, rfl⟩, q⟩
theorem pe_mul (ha : PE X a ta) (hb : PE X b tb) : PE X (.BinOp a .Mult b pos) (tMul ta tb) := by
  intro pins s σ H Q I h
  refine wpAny_BinOp (bin ha hb I h fun v u s2 x y H2 I2 rx ry q => ?_)
  obtain ⟨i, j, rfl, rfl, ⟨q1, q2⟩, q⟩ := q
  obtain ⟨t, rfl⟩ := rx
  obtain ⟨t', rfl⟩ := ry
  exact mul_int ⟨.int _, H2, I2.tok _, ⟨_, rfl⟩, q⟩ (.of_left (intBits_le_64 q1 q2))

/-! ### comparisons -/
def PC (X : Cx) (op : CmpOp) (a b : Expr) (t : TE) : Prop :=
  ∀ (pins : List (Addr × Obj)) (s : Shared) (σ : St) (H : Hp) (Q : VK), Inv X pins σ H s → t σ H Q →
    wpAny (model X.prog X.w) X.A (eval a X.env) (fun v s₁ => wpAny (model X.prog X.w) X.A (eval b X.env) (fun u s₂ => wpAny (model X.prog X.w) X.A (compareOp op v u) (EP X pins σ Q) X.xe s₂) X.xe s₁) X.xe s
theorem nobehind (b : Expr) {op : CmpOp} (h : op ≠ .In) (h2 : op ≠ .NotIn) : behindInMarks op b = false := by
  have e1 : (op == CmpOp.In) = false := by cases op <;> first | rfl | exact absurd rfl h
  have e2 : (op == CmpOp.NotIn) = false := by cases op <;> first | rfl | exact absurd rfl h2
  cases b <;> simp [behindInMarks, e1, e2]
def tCmp (p : Int → Int → Bool) (ta tb : TE) : TE := fun σ H Q => t2I ta tb (fun i j H2 => Q (.bl (p i j)) H2) σ H
abbrev tLt : TE → TE → TE := tCmp fun i j => decide (i < j)
abbrev tLe : TE → TE → TE := tCmp fun i j => decide (i ≤ j)
abbrev tGt : TE → TE → TE := tCmp fun i j => decide (j < i)
abbrev tGe : TE → TE → TE := tCmp fun i j => decide (j ≤ i)
abbrev tEqI : TE → TE → TE := tCmp fun i j => decide (i = j)
abbrev tNeI : TE → TE → TE := tCmp fun i j => !decide (i = j)
/-- a comparison of two ints, by its rule -/
theorem pc_int {op : CmpOp} {p : Int → Int → Bool} (ha : PE X a ta) (hb : PE X b tb)
    (rule : ∀ (i j : Int) (t u : Tok) (Q : Value → Shared → Prop) (s : Shared), Q (.bool (p i j)) s → wpAny (model X.prog X.w) X.A (compareOp op (.int i t) (.int j u)) Q X.xe s) : PC X op a b (tCmp p ta tb) := by
  intro pins s σ H Q I h
  refine bin ha hb I h fun v u s2 x y H2 I2 rx ry q => ?_
  obtain ⟨i, j, rfl, rfl, q⟩ := q
  obtain ⟨t, rfl⟩ := rx
  obtain ⟨t', rfl⟩ := ry
  exact rule i j t t' _ s2 ⟨.bl _, H2, I2, rfl, q⟩
theorem pc_lt (ha : PE X a ta) (hb : PE X b tb) : PC X .Lt a b (tLt ta tb) := pc_int ha hb fun _ _ _ _ _ _ h => lt_int h
theorem pc_le (ha : PE X a ta) (hb : PE X b tb) : PC X .LtE a b (tLe ta tb) := pc_int ha hb fun _ _ _ _ _ _ h => le_int h
theorem pc_gt (ha : PE X a ta) (hb : PE X b tb) : PC X .Gt a b (tGt ta tb) := pc_int ha hb fun _ _ _ _ _ _ h => gt_int h
theorem pc_ge (ha : PE X a ta) (hb : PE X b tb) : PC X .GtE a b (tGe ta tb) := pc_int ha hb fun _ _ _ _ _ _ h => ge_int h
theorem pc_eqI (ha : PE X a ta) (hb : PE X b tb) : PC X .Eq a b (tEqI ta tb) := pc_int ha hb fun _ _ _ _ _ _ h => eq_int (by rw [Bool.beq_eq_decide_eq]; exact h)
theorem pc_neI (ha : PE X a ta) (hb : PE X b tb) : PC X .NotEq a b (tNeI ta tb) := pc_int ha hb fun _ _ _ _ _ _ h => ne_int (by rw [bne, Bool.beq_eq_decide_eq]; exact h)
/-- is None -/
def tIsN (ta : TE) : TE := fun σ H Q => ta σ H fun x H1 => Q (.bl (decide (x = .non))) H1
def tNotN (ta : TE) : TE := fun σ H Q => ta σ H fun x H1 => Q (.bl (!decide (x = .non))) H1
theorem RelV.none_iff {x : V} {v : Value} (r : RelV x v) : (v == Value.none) = decide (x = .non) := by
  cases x with
  | non => cases r; rfl
  | bl _ => cases r; rfl
  | int _ => obtain ⟨t, rfl⟩ := r; rfl
  | str _ => obtain ⟨t, rfl⟩ := r; rfl
  | byt _ => obtain ⟨t, rfl⟩ := r; rfl
  | flt _ => obtain ⟨t, rfl⟩ := r; rfl
  | ref _ => cases r; rfl
  | ty _ => cases r; rfl
theorem pc_isN {j pos'} (ha : PE X a ta) : PC X .Is a (.Constant .none j pos') (tIsN ta) := by
  intro pins s σ H Q I h
  refine thn (ha pins s σ H _ I h) fun v s1 ⟨x, H1, I1, r1, q1⟩ => ?_
  exact Constant_none (is_none_gen ⟨.bl _, H1, I1, by rw [r1.none_iff]; rfl, q1⟩)
theorem pc_notN {j pos'} (ha : PE X a ta) : PC X .IsNot a (.Constant .none j pos') (tNotN ta) := by
  intro pins s σ H Q I h
  refine thn (ha pins s σ H _ I h) fun v s1 ⟨x, H1, I1, r1, q1⟩ => ?_
  exact Constant_none (isnot_none_gen ⟨.bl _, H1, I1, by rw [r1.none_iff]; rfl, q1⟩)
/-- a comparison as a value, as a test -/
def tB (t : TE) : TT := fun σ H Q => t σ H fun x H1 => ∃ c, x = .bl c ∧ Q c H1
theorem pe_cmp {op : CmpOp} {t : TE} (h : PC X op a b t) (h1 : behindInMarks op b = false := by first | exact nobehind _ (by decide) (by decide) | rfl) : PE X (.Compare a [op] [b] pos) t := fun pins s σ H Q I hw => wpAny_Compare1 (h pins s σ H Q I hw) h1
theorem pt_cmp {op : CmpOp} {t : TE} (h : PC X op a b t) (h1 : behindInMarks op b = false := by first | exact nobehind _ (by decide) (by decide) | rfl) : PT X (.Compare a [op] [b] pos) (tB t) := by
  intro pins s σ H Q I hw
  refine wpAny_isTrue_Compare1 (thn (h pins s σ H _ I hw) fun v s1 h1 => thn h1 fun u s2 h2 => thn h2 fun c s3 ⟨x, H1, I1, r1, q1⟩ => ?_) h1
  obtain ⟨d, rfl, q⟩ := q1
  cases r1
  exact wpAny_truthy_bool ⟨H1, I1, q⟩
/-- an expression whose value is a bool, as a test -/
theorem pt_val {e : Expr} {t : TE} (h : PE X e t) (he : ∀ whole, isTrue e X.env whole = (do let v ← whole; standAt e.pos; holding [v] (truthy v)) := by intro _; rfl) : PT X e (tB t) := by
  intro pins s σ H Q I hw
  refine isTrue_plain (thn (h pins s σ H _ I hw) fun v s1 ⟨x, H1, I1, r1, q1⟩ => ?_) (he _)
  obtain ⟨d, rfl, q⟩ := q1
  cases r1
  exact wpAny_truthy_bool ⟨H1, I1, q⟩

/-! ### and, or, not -/
variable {tA tB' : TT} {rest : List Expr}
def tAnd (t u : TT) : TT := fun σ H Q => t σ H fun c H1 => if c = true then u σ H1 Q else Q false H1
def tOr (t u : TT) : TT := fun σ H Q => t σ H fun c H1 => if c = true then Q true H1 else u σ H1 Q
def tNot (t : TT) : TT := fun σ H Q => t σ H fun c H1 => Q (!c) H1
theorem pw_and1 (ha : PT X a tA) : PW X (.BoolOp .And [a] pos) tA := by
  intro wh pins s σ H Q I h
  refine isTrue_and (thn (ha pins s σ H Q I h) fun c s1 e => ?_)
  cases c with
  | true => exact isTrue_and_nil e
  | false => exact e
theorem pw_or1 (ha : PT X a tA) : PW X (.BoolOp .Or [a] pos) tA := by
  intro wh pins s σ H Q I h
  refine isTrue_or (thn (ha pins s σ H Q I h) fun c s1 e => ?_)
  cases c with
  | false => exact isTrue_or_nil e
  | true => exact e
theorem pw_and (ha : PT X a tA) (hb : PW X (.BoolOp .And (b :: rest) pos) tB') : PW X (.BoolOp .And (a :: b :: rest) pos) (tAnd tA tB') := by
  intro wh pins s σ H Q I h
  refine isTrue_and (thn (ha pins s σ H _ I h) fun c s1 ⟨H1, I1, q1⟩ => ?_)
  cases c with
  | true => exact hb wh pins s1 σ H1 Q I1 q1
  | false => exact ⟨H1, I1, q1⟩
theorem pw_or (ha : PT X a tA) (hb : PW X (.BoolOp .Or (b :: rest) pos) tB') : PW X (.BoolOp .Or (a :: b :: rest) pos) (tOr tA tB') := by
  intro wh pins s σ H Q I h
  refine isTrue_or (thn (ha pins s σ H _ I h) fun c s1 ⟨H1, I1, q1⟩ => ?_)
  cases c with
  | true => exact ⟨H1, I1, q1⟩
  | false => exact hb wh pins s1 σ H1 Q I1 q1
theorem pt_not (ha : PT X a tA) : PT X (.UnaryOp .Not a pos) (tNot tA) := by
  intro pins s σ H Q I h
  exact isTrue_not (ha pins s σ H (fun c H1 => Q (!c) H1) I h)
/-- .. as values (bools) -/
def tAndV (ta tb : TE) : TE := fun σ H Q => ta σ H fun x H1 => ∃ c, x = .bl c ∧ if c = true then tb σ H1 Q else Q (.bl false) H1
def tOrV (ta tb : TE) : TE := fun σ H Q => ta σ H fun x H1 => ∃ c, x = .bl c ∧ if c = true then Q (.bl true) H1 else tb σ H1 Q
def tNotV (ta : TE) : TE := fun σ H Q => ta σ H fun x H1 => ∃ c, x = .bl c ∧ Q (.bl (!c)) H1
theorem pe_one {op} {t : TE} (h : PE X a t) : PE X (.BoolOp op [a] pos) t := fun pins s σ H Q I hw => BoolOp_one (h pins s σ H Q I hw)
theorem pe_and (ha : PE X a ta) (hb : PE X (.BoolOp .And (b :: rest) pos) tb) : PE X (.BoolOp .And (a :: b :: rest) pos) (tAndV ta tb) := by
  intro pins s σ H Q I h
  refine BoolOp_and (thn (ha pins s σ H _ I h) fun v s1 ⟨x, H1, I1, r1, q1⟩ => ?_)
  obtain ⟨c, rfl, q1⟩ := q1
  cases r1
  refine wpAny_truthy_bool ?_
  cases c with
  | true => exact hb pins s1 σ H1 Q I1 q1
  | false => exact ⟨.bl false, H1, I1, rfl, q1⟩
theorem pe_or (ha : PE X a ta) (hb : PE X (.BoolOp .Or (b :: rest) pos) tb) : PE X (.BoolOp .Or (a :: b :: rest) pos) (tOrV ta tb) := by
  intro pins s σ H Q I h
  refine BoolOp_or (thn (ha pins s σ H _ I h) fun v s1 ⟨x, H1, I1, r1, q1⟩ => ?_)
  obtain ⟨c, rfl, q1⟩ := q1
  cases r1
  refine wpAny_truthy_bool ?_
  cases c with
  | false => exact hb pins s1 σ H1 Q I1 q1
  | true => exact ⟨.bl true, H1, I1, rfl, q1⟩
theorem pe_not (ha : PE X a ta) : PE X (.UnaryOp .Not a pos) (tNotV ta) := by
  intro pins s σ H Q I h
  refine UnaryOp_ (thn (ha pins s σ H _ I h) fun v s1 ⟨x, H1, I1, r1, q1⟩ => ?_)
  obtain ⟨c, rfl, q1⟩ := q1
  cases r1
  exact not_of (wpAny_truthy_bool ⟨.bl (!c), H1, I1, rfl, q1⟩)
/-- a if t else b -/
def tIf (t : TT) (ta tb : TE) : TE := fun σ H Q => t σ H fun c H1 => if c = true then ta σ H1 Q else tb σ H1 Q
theorem pe_ifExp {c : Expr} (hc : PT X c tA) (ha : PE X a ta) (hb : PE X b tb) : PE X (.IfExp c a b pos) (tIf tA ta tb) := by
  intro pins s σ H Q I h
  refine wpAny_IfExp (thn (hc pins s σ H _ I h) fun d s1 ⟨H1, I1, q1⟩ => ?_)
  cases d with
  | true => exact ha pins s1 σ H1 Q I1 q1
  | false => exact hb pins s1 σ H1 Q I1 q1
end
end L2

namespace L2
open PySem PySem.Spec PyProof.Rows

/-! ### a list, a tuple that is read: tracked, frozen, or an object of the module -/
def SqL (K : PySem.W.Frag) (H : Hp) (a : Addr) (xs : List V) : Prop :=
  Rd H a (.lst xs) ∨
    ∃ (o : Obj) (its : Array Value) (n : Nat), K.lookup a = some o ∧ o.cls = .type "list" ∧ o.dict = none ∧ o.data = .seq its n ∧ its.size ≤ sizeLine ∧ Vals xs its.toList
def SqT (K : PySem.W.Frag) (H : Hp) (a : Addr) (xs : List V) : Prop :=
  Rd H a (.tup xs) ∨
    ∃ (o : Obj) (its : Array Value) (n : Nat), K.lookup a = some o ∧ o.cls = .type "tuple" ∧ o.data = .seq its n ∧ its.size ≤ sizeLine ∧ Vals xs its.toList
def absV : Value → Option V
  | .none => some .non
  | .bool b => some (.bl b)
  | .int i _ => some (.int i)
  | .str x _ => some (.str x)
  | .bytes b _ => some (.byt b)
  | .float b _ => some (.flt b)
  | .ref a => some (.ref a)
  | .type n => some (.ty n)
  | _ => none
theorem RelV.abs {x : V} {u : Value} (r : RelV x u) : absV u = some x := by
  cases x with
  | non => cases r; rfl
  | bl _ => cases r; rfl
  | int _ => obtain ⟨t, rfl⟩ := r; rfl
  | str _ => obtain ⟨t, rfl⟩ := r; rfl
  | byt _ => obtain ⟨t, rfl⟩ := r; rfl
  | flt _ => obtain ⟨t, rfl⟩ := r; rfl
  | ref _ => cases r; rfl
  | ty _ => cases r; rfl
theorem RelV.inj {x y : V} {u : Value} (r : RelV x u) (q : RelV y u) : x = y := Option.some.inj (r.abs.symm.trans q.abs)
theorem Vals.inj : ∀ {xs ys : List V} {us : List Value}, Vals xs us → Vals ys us → xs = ys
  | _, _, _, .nil, .nil => rfl
  | _, _, _, .cons r t, .cons r' t' => by rw [r.inj r', Vals.inj t t']
section
variable {X : Cx} {pins : List (Addr × Obj)} {σ : St} {H : Hp} {s : Shared} {a : Addr} {xs ys : List V}
theorem SqL.of {K : PySem.W.Frag} (h : H a = some (.lst xs)) : SqL K H a xs := .inl (.inl h)
theorem SqT.of {K : PySem.W.Frag} (h : H a = some (.tup xs)) : SqT K H a xs := .inl (.inl h)
theorem Inv.list (I : Inv X pins σ H s) (h : SqL X.K H a xs) : ∃ its : List Value, Vals xs its ∧ PlainL s.heap a its.toArray ∧ xs.length ≤ sizeLine := by
  rcases h with h | ⟨o, its, n, hk, hc, hd, hs, hz, r⟩
  · obtain ⟨z, its, n, r, e⟩ := h.ok I.hok
    exact ⟨its, r, ⟨_, n, e, rfl, rfl, rfl⟩, z⟩
  · refine ⟨its.toList, r, ⟨o, n, I.kIn a o hk, hc, hd, by simpa using hs⟩, ?_⟩
    have e := r.length
    simp only [Array.length_toList] at e
    omega
theorem Inv.tuple (I : Inv X pins σ H s) (h : SqT X.K H a xs) : ∃ its : List Value, Vals xs its ∧ IsTup s.heap a its.toArray ∧ xs.length ≤ sizeLine := by
  rcases h with h | ⟨o, its, n, hk, hc, hs, hz, r⟩
  · obtain ⟨z, its, r, p⟩ := h.ok I.hok
    exact ⟨its, r, p, z⟩
  · refine ⟨its.toList, r, ⟨o, I.kIn a o hk, hc, n, by simpa using hs⟩, ?_⟩
    have e := r.length
    simp only [Array.length_toList] at e
    omega
theorem Inv.list_inj (I : Inv X pins σ H s) (h : SqL X.K H a xs) (h' : SqL X.K H a ys) : xs = ys := by
  obtain ⟨its, r, ⟨o, n, e, _, _, d⟩, _⟩ := I.list h
  obtain ⟨its', r', ⟨o', n', e', _, _, d'⟩, _⟩ := I.list h'
  rw [e] at e'; cases e'
  rw [d] at d'
  injection d' with d1 _
  have : its = its' := by simpa using congrArg Array.toList d1
  subst this
  exact r.inj r'
theorem Inv.tuple_inj (I : Inv X pins σ H s) (h : SqT X.K H a xs) (h' : SqT X.K H a ys) : xs = ys := by
  obtain ⟨its, r, ⟨o, e, _, n, d⟩, _⟩ := I.tuple h
  obtain ⟨its', r', ⟨o', e', _, n', d'⟩, _⟩ := I.tuple h'
  rw [e] at e'; cases e'
  rw [d] at d'
  injection d' with d1 _
  have : its = its' := by simpa using congrArg Array.toList d1
  subst this
  exact r.inj r'
end

/-! ### another wish about exceptions -/
abbrev Cx.wish (X : Cx) (E : Value → Shared → Prop) : Cx := { X with xe := E }
/-- no exception leaves -/
abbrev Cx.nox (X : Cx) : Cx := X.wish fun _ _ => False
theorem Cx.Ok.wish {X : Cx} (ok : X.Ok) (E : Value → Shared → Prop) : (X.wish E).Ok :=
  ⟨ok.mod, ok.kind, ok.glob, ok.blt, ok.above, ok.inj, ok.has, ok.cab, ok.hd, ok.frames, ok.stk, ok.exf, ok.bs, ok.bsz, ok.noex, ok.exfs, ok.funs, ok.frf⟩
theorem Cx.Ok.unwish {X : Cx} {E : Value → Shared → Prop} (ok : (X.wish E).Ok) : X.Ok :=
  ⟨ok.mod, ok.kind, ok.glob, ok.blt, ok.above, ok.inj, ok.has, ok.cab, ok.hd, ok.frames, ok.stk, ok.exf, ok.bs, ok.bsz, ok.noex, ok.exfs, ok.funs, ok.frf⟩
section
variable {X : Cx} {pins : List (Addr × Obj)} {σ : St} {H : Hp} {s : Shared} {E : Value → Shared → Prop}
theorem Inv.wish (I : Inv X pins σ H s) (E : Value → Shared → Prop) : Inv (X.wish E) pins σ H s := ⟨I.ok.wish E, I.os, I.bare, I.base, I.loc, I.cell, I.free, I.freeC, I.pin, I.hok, I.len⟩
theorem Inv.unwish (I : Inv (X.wish E) pins σ H s) : Inv X pins σ H s := ⟨I.ok.unwish, I.os, I.bare, I.base, I.loc, I.cell, I.free, I.freeC, I.pin, I.hok, I.len⟩
theorem SP.unwish {D : Ends} {f : Flow} {s' : Shared} (h : SP (X.wish E) pins D f s') : SP X pins D f s' := by
  cases f with
  | next => obtain ⟨σ', H', I, q⟩ := h; exact ⟨σ', H', I.unwish, q⟩
  | brk => obtain ⟨σ', H', I, q⟩ := h; exact ⟨σ', H', I.unwish, q⟩
  | cont => obtain ⟨σ', H', I, q⟩ := h; exact ⟨σ', H', I.unwish, q⟩
  | ret u => obtain ⟨v, σ', H', I, r, q⟩ := h; exact ⟨v, σ', H', I.unwish, r, q⟩
theorem PE.nox {e : Expr} {t : TE} (h : PE X.nox e t) : PE X e t := fun pins s σ H Q I hw =>
  wpAny_mono (h pins s σ H Q (I.wish _) hw) (fun _ _ ⟨v, H', I', r, q⟩ => ⟨v, H', I'.unwish, r, q⟩) fun _ _ z => False.elim z
theorem PT.nox {e : Expr} {t : TT} (h : PT X.nox e t) : PT X e t := fun pins s σ H Q I hw =>
  wpAny_mono (h pins s σ H Q (I.wish _) hw) (fun _ _ ⟨H', I', q⟩ => ⟨H', I'.unwish, q⟩) fun _ _ z => False.elim z
theorem PSs.nox {st : List Stmt} {t : TS} (h : PSs X.nox st t) : PSs X st t := fun pins s σ H D I hw =>
  wpAny_mono (h pins s σ H D (I.wish _) hw) (fun _ _ q => q.unwish) fun _ _ z => False.elim z
end

/-! ### blocks and small statements -/
section
variable {X : Cx} {st : Stmt} {rest : List Stmt} {t u : TS} {e : Expr} {te : TE} {pos : Pos}
def tNext : TS := fun D σ H => D.nx σ H
def tSeq (t u : TS) : TS := fun D σ H => t { D with nx := u D } σ H
theorem pss_nil : PSs X [] tNext := fun _ _ σ H _ I h => wpAny_execs_nil ⟨σ, H, I, h⟩
theorem pss_cons (h1 : PS X st t) (h2 : PSs X rest u) : PSs X (st :: rest) (tSeq t u) := by
  intro pins s σ H D I h
  refine wpAny_execs_cons (thn (h1 pins s σ H { D with nx := u D } I h) fun f s1 q => ?_)
  cases f with
  | next =>
    obtain ⟨σ', H', I', q⟩ := q
    exact h2 pins s1 σ' H' D I' q
  | ret v => exact q
  | brk => exact q
  | cont => exact q
theorem pss_one (h1 : PS X st t) : PSs X [st] t := by
  intro pins s σ H D I h
  refine wpAny_execs_cons (thn (h1 pins s σ H D I h) fun f s1 q => ?_)
  cases f with
  | next => exact wpAny_execs_nil q
  | ret v => exact q
  | brk => exact q
  | cont => exact q
def tBreak : TS := fun D σ H => D.bk σ H
def tCont : TS := fun D σ H => D.ct σ H
theorem ps_pass : PS X (.Pass pos) tNext := fun _ _ σ H _ I h => wpAny_Pass ⟨σ, H, I, h⟩
theorem ps_break : PS X (.Break pos) tBreak := fun _ _ σ H _ I h => wpAny_Break ⟨σ, H, I, h⟩
theorem ps_continue : PS X (.Continue pos) tCont := fun _ _ σ H _ I h => wpAny_Continue ⟨σ, H, I, h⟩
/-- in a def's body nothing is shown -/
theorem Inv.quiet {pins : List (Addr × Obj)} {σ : St} {H : Hp} {s : Shared} (I : Inv X pins σ H s) : interactive X.env = false := by simp [interactive, I.ok.kind]
/-- a docstring -/
theorem ps_doc {x j pos pos'} : PS X (.Expr (.Constant (.str x) j pos) pos') tNext := fun _ s σ H _ I h => wpAny_Expr (Calls.Constant_str (show SP X _ _ .next { s with toks := s.toks + 1 } from ⟨σ, H, I.tok _, h⟩)) I.quiet
/-- an expression whose value is dropped -/
def tDrop (te : TE) : TS := fun D σ H => te σ H fun _ H1 => D.nx σ H1
theorem ps_expr (he : PE X e te) (hs : swapsWith e none pos.line X.env = pure false := by rfl) : PS X (.Expr e pos) (tDrop te) := by
  intro pins s σ H D I h
  exact wpAny_Expr_any (thn (he pins s σ H _ I h) fun v s1 ⟨x, H1, I1, r1, q1⟩ => ⟨σ, H1, I1, q1⟩) I.quiet hs
def tRet (te : TE) : TS := fun D σ H => te σ H D.rt
theorem ps_ret (he : PE X e te) : PS X (.Return (some e) pos) (tRet te) := by
  intro pins s σ H D I h
  exact wpAny_Return_some (thn (he pins s σ H _ I h) fun v s1 ⟨x, H1, I1, r1, q1⟩ => ⟨x, σ, H1, I1, r1, q1⟩)
def tRetN : TS := fun D _ H => D.rt .non H
theorem ps_retN : PS X (.Return none pos) tRetN := fun _ _ σ H _ I h => wpAny_Return_none ⟨.non, σ, H, I, rfl, h⟩
def tIfS (c : TT) (t u : TS) : TS := fun D σ H => c σ H fun b H1 => if b = true then t D σ H1 else u D σ H1
theorem ps_if {c : Expr} {a b : List Stmt} {tc : TT} (hc : PT X c tc) (ha : PSs X a t) (hb : PSs X b u) : PS X (.If c a b pos) (tIfS tc t u) := by
  intro pins s σ H D I h
  refine wpAny_If (thn (hc pins s σ H _ I h) fun d s1 ⟨H1, I1, q1⟩ => ?_)
  cases d with
  | true => exact ha pins s1 σ H1 D I1 q1
  | false => exact hb pins s1 σ H1 D I1 q1
/-- code that the proof never comes to -/
def tNever : TS := fun _ _ _ => False
theorem ps_never : PS X st tNever := fun _ _ _ _ _ _ h => h.elim
theorem pss_never {sts : List Stmt} : PSs X sts tNever := fun _ _ _ _ _ _ h => h.elim
end

/-! ### targets -/
abbrev TG := V → St → Hp → (St → Hp → Prop) → Prop
abbrev TGs := List V → St → Hp → (St → Hp → Prop) → Prop
def PG (X : Cx) (target : Expr) (t : TG) : Prop :=
  ∀ (pins : List (Addr × Obj)) (s : Shared) (σ : St) (H : Hp) (v : V) (u : Value) (Q : St → Hp → Prop), Inv X pins σ H s → RelV v u → t v σ H Q →
    wpAny (model X.prog X.w) X.A (assign target X.env u) (fun _ s' => ∃ σ' H', Inv X pins σ' H' s' ∧ Q σ' H') X.xe s
/-- several targets, one after another -/
def PGs (X : Cx) (ts : List Expr) (t : TGs) : Prop :=
  ∀ (pins : List (Addr × Obj)) (s : Shared) (σ : St) (H : Hp) (vs : List V) (us : List Value) (Q : St → Hp → Prop), Inv X pins σ H s → Vals vs us → t vs σ H Q →
    wpAny (model X.prog X.w) X.A (assignInOrder ((assignEach ts X.env).map (·.2)) us) (fun _ s' => ∃ σ' H', Inv X pins σ' H' s' ∧ Q σ' H') X.xe s
/-- o[i] = v, by values -/
abbrev TSet := V → V → V → Hp → (Hp → Prop) → Prop
def PSet (X : Cx) (t : TSet) : Prop :=
  ∀ (pins : List (Addr × Obj)) (s : Shared) (σ : St) (H : Hp) (o i v : V) (ov iv u : Value) (Q : Hp → Prop), Inv X pins σ H s → RelV o ov → RelV i iv → RelV v u → t o i v H Q →
    wpAny (model X.prog X.w) X.A (setItem ov iv u) (fun _ s' => ∃ H', Inv X pins σ H' s' ∧ Q H') X.xe s
/-- a op= b, by values -/
abbrev TIp := V → V → Hp → VK → Prop
def PIp (X : Cx) (op : Operator) (t : TIp) : Prop :=
  ∀ (pins : List (Addr × Obj)) (s : Shared) (σ : St) (H : Hp) (x y : V) (v u : Value) (Q : VK), Inv X pins σ H s → RelV x v → RelV y u → t x y H Q →
    wpAny (model X.prog X.w) X.A (inplaceOp op v u) (EP X pins σ Q) X.xe s
section
variable {X : Cx} {pos : Pos}
def gName (i : Nat) : TG := fun v σ H Q => Q (σ.set i (some v)) H
theorem pg_name {i : Nat} {x : Str} (hN : X.N.Nodup) (hi : X.N[i]? = some x) (hx : Loc X.env.scope x) (hf : X.fn x = true ∨ X.env.scope.names.lookup x = some .local := by first | exact .inl rfl | exact .inr rfl | assumption) : PG X (.Name x pos) (gName i) := by
  intro pins s σ H v u Q I r h
  exact wpAny_assign_Name (store_ok I hN hi hx r (fun s' I' => ⟨_, H, I', h⟩) hf)
def gNil : TGs := fun vs σ H Q => vs = [] ∧ Q σ H
def gCons (t : TG) (u : TGs) : TGs := fun vs σ H Q => ∃ v r, vs = v :: r ∧ t v σ H fun σ' H' => u r σ' H' Q
theorem pgs_nil : PGs X [] gNil := by
  intro pins s σ H vs us Q I r h
  obtain ⟨e, h⟩ := h
  subst e
  cases r
  exact assignInOrder_nil ⟨σ, H, I, h⟩
theorem pgs_cons {e : Expr} {es : List Expr} {t : TG} {u : TGs} (h1 : PG X e t) (h2 : PGs X es u)
    (hs : (assignEach (e :: es) X.env).map (·.2) = assign e X.env :: (assignEach es X.env).map (·.2) := by rfl) : PGs X (e :: es) (gCons t u) := by
  intro pins s σ H vs us Q I r h
  obtain ⟨v, vr, e1, h⟩ := h
  subst e1
  cases r with
  | cons r rr =>
    rw [hs]
    refine assignInOrder_cons (thn (h1 pins s σ H _ _ _ I r h) fun _ s1 ⟨σ1, H1, I1, q1⟩ => ?_)
    exact h2 pins s1 σ1 H1 _ _ Q I1 rr q1
/-- (a, b, ..) = a tuple of that length -/
def gTup (K : PySem.W.Frag) (n : Nat) (t : TGs) : TG := fun v σ H Q => ∃ a xs, v = .ref a ∧ SqT K H a xs ∧ xs.length = n ∧ t xs σ H Q
theorem pg_tup {es : List Expr} {k : Nat} {t : TGs} {n : Nat} (hc : X.calm = true) (h : PGs X es t)
    (hn : (assignEach es X.env).length = n := by rfl) (hst : (assignEach es X.env).findIdx? (·.1) = none := by rfl) : PG X (.Tuple es k pos) (gTup X.K n t) := by
  intro pins s σ H v u Q I r hw
  obtain ⟨a, xs, e1, hq, hl, hw⟩ := hw
  subst e1
  cases r
  obtain ⟨its, rv, ht, hz⟩ := I.tuple hq
  refine assign_Tuple_tuple (I.ok.hd hc) ht (by simp [hn, ← hl, rv.length]) hst fun h' hx => ?_
  have I1 : Inv X pins σ H { s with heap := h' } := I.kept (t' := s.toks) fun b o e => hx b o (Nat.ne_of_lt (Heap.lt_size e)) e
  exact h pins _ σ H xs _ Q I1 (by simpa using rv) hw
/-- o[i] = .. -/
def gSub (to ti : TE) (t : TSet) : TG := fun v σ H Q => to σ H fun o H1 => ti σ H1 fun i H2 => t o i v H2 fun H3 => Q σ H3
theorem pg_sub {o i : Expr} {to ti : TE} {t : TSet} (ho : PE X o to) (hi : PE X i ti) (hs : PSet X t)
    (ha : ∀ v, assign (.Subscript o i pos) X.env v = (do
      let ov ← holding [v] (eval o X.env)
      let iv ← holding [v, ov] (eval i X.env)
      standAt pos
      holding [v, ov, iv] (setItem ov iv v)
      release [v, ov, iv] []) := by intro _; rfl) : PG X (.Subscript o i pos) (gSub to ti t) := by
  intro pins s σ H v u Q I r h
  rw [ha]
  refine wpAny_bind (wpAny_holding (thn (ho pins s σ H _ I h) fun ov s1 ⟨x, H1, I1, r1, q1⟩ => ?_))
  refine wpAny_bind (wpAny_holding (thn (hi pins s1 σ H1 _ I1 q1) fun iv s2 ⟨y, H2, I2, r2, q2⟩ => ?_))
  refine wpAny_bind (wpAny_standAt (wpAny_bind (wpAny_holding (thn (hs pins s2 σ H2 x y v ov iv u _ I2 r1 r2 r q2) fun _ s3 ⟨H3, I3, q3⟩ => ?_))))
  exact wpAny_release ⟨σ, H3, I3, q3⟩
/-- target = value -/
def tAsg (te : TE) (g : TG) : TS := fun D σ H => te σ H fun x H1 => g x σ H1 D.nx
theorem ps_asg {tg e : Expr} {te : TE} {g : TG} (he : PE X e te) (hg : PG X tg g) (hs : swapsWithSole [tg] e pos.line X.env = pure false := by rfl) (hw : swappedStores [tg] e X.env = pure none := by rfl)
    (h1 : (assignEach [tg] X.env).map (·.2) = [assign tg X.env] := by rfl) : PS X (.Assign [tg] e pos) (tAsg te g) := by
  intro pins s σ H D I h
  refine wpAny_Assign_stores (thn (he pins s σ H _ I h) fun v s1 ⟨x, H1, I1, r1, q1⟩ => ?_) hs hw
  rw [h1]
  exact thn (hg pins s1 σ H1 x v _ I1 r1 q1) fun _ s2 q => q
/-- name = value -/
theorem ps_set {i : Nat} {x : Str} {e : Expr} {te : TE} {pos' : Pos} (hN : X.N.Nodup) (hi : X.N[i]? = some x) (hx : Loc X.env.scope x) (he : PE X e te) (hs : swapsWith e (some (.Name x pos')) pos.line X.env = pure false := by rfl) (hf : X.fn x = true ∨ X.env.scope.names.lookup x = some .local := by first | exact .inl rfl | exact .inr rfl | assumption) :
    PS X (.Assign [.Name x pos'] e pos) (tAsg te (gName i)) := by
  intro pins s σ H D I h
  refine wpAny_Assign_Name (thn (he pins s σ H _ I h) fun v s1 ⟨y, H1, I1, r1, q1⟩ => ?_) hs
  exact store_ok I1 hN hi hx r1 (fun s2 I2 => ⟨_, H1, I2, q1⟩) hf
/-- a, b = x, y with plain local names: stored from the right; the pair itself is not tracked (the opening rows as in PyProof/Rows/TupAssign.lean:23) -/
def tPar (i j : Nat) (ta : TA) : TS := fun D σ H => ta σ H fun vs H1 => ∃ v w, vs = [v, w] ∧ D.nx ((σ.set i (some v)).set j (some w)) H1
theorem ps_par {i j : Nat} {x y : Str} {a b : Expr} {ta : TA} {px py pt : Pos} {kt k2 pt2} (hc : X.calm = true) (hN : X.N.Nodup) (hi : X.N[i]? = some x) (hj : X.N[j]? = some y) (hij : i ≠ j)
    (hx : X.env.scope.names.lookup x = some .local) (hy : X.env.scope.names.lookup y = some .local) (ha : PA X [a, b] ta)
    (hw : swappedStores [.Tuple [.Name x px, .Name y py] kt pt] (.Tuple [a, b] k2 pt2) X.env = pure (some [x, y]))
    (hs : swapsWithSole [.Tuple [.Name x px, .Name y py] kt pt] (.Tuple [a, b] k2 pt2) pos.line X.env = pure false := by rfl) :
    PS X (.Assign [.Tuple [.Name x px, .Name y py] kt pt] (.Tuple [a, b] k2 pt2) pos) (tPar i j ta) := by
  intro pins s σ H D I h
  rw [exec_Assign_arm]
  refine wpAny_bind (wpAny_standAt ?_)
  rw [hs]
  refine wpAny_bind (wpAny_pure ?_)
  rw [if_neg (by decide)]
  refine wpAny_bind (Tuple_ (thn (ha _ pins s σ H _ I h) fun us s1 ⟨vs, H1, I1, r1, q1⟩ => ?_))
  obtain ⟨v, w, e1, q1⟩ := q1
  subst e1
  obtain ⟨u1, u2, rfl, rv, rw'⟩ : ∃ u1 u2, us = [u1, u2] ∧ RelV v u1 ∧ RelV w u2 := by
    cases r1 with
    | cons p q =>
      cases q with
      | cons p' q' =>
        cases q'
        exact ⟨_, _, rfl, p, p'⟩
  refine wpAny_newObj_type ?_ (by show 2 ≤ sizeLine; decide)
  have I2 : Inv X pins σ H1 { s1 with heap := s1.heap.push { cls := .type "tuple", data := .seq [u1, u2].toArray } } := I1.kept (t' := s1.toks) fun b o e => Heap.get?_push_of_some _ e
  rw [hw]
  refine wpAny_bind (wpAny_pure ?_)
  show wpAny (model X.prog X.w) X.A (do rule "assign.swapped-stores"; let items ← unpackItems (.ref s1.heap.objs.size) 2 none; assignInOrder [fun v => bindName X.env y v, fun v => bindName X.env x v] items.reverse; pure Flow.next) _ _ _
  refine wpAny_bind (wpAny_rule (wpAny_bind (unpackItems_tuple (items := #[u1, u2]) (I.ok.hd hc) (IsTup.new s1.heap _) fun h' hx' => ?_)))
  have I3 := I2.kept (h' := h') (t' := s1.toks) fun b o e => hx' b o (Nat.ne_of_lt (Heap.lt_size e)) e
  show wpAny _ _ (assignInOrder [fun v => bindName X.env y v, fun v => bindName X.env x v] [u2, u1] >>= fun _ => pure Flow.next) _ _ _
  refine wpAny_bind (assignInOrder_cons (wpAny_bindName (store_ok I3 hN hj (.inl hy) rw' (fun s2 I4 => ?_) (.inr hy))))
  refine assignInOrder_cons (wpAny_bindName (store_ok I4 hN hi (.inl hx) rv (fun s3 I5 => assignInOrder_nil (wpAny_pure ?_)) (.inr hx)))
  rw [List.set_comm _ _ (Ne.symm hij)] at I5
  exact ⟨_, H1, I5, q1⟩
/-- name op= e -/
def tAug (i : Nat) (te : TE) (ti : TIp) : TS := fun D σ H => ∃ x, σ[i]? = some (some x) ∧ te σ H fun y H1 => ti x y H1 fun z H2 => D.nx (σ.set i (some z)) H2
theorem ps_aug {i : Nat} {x : Str} {e : Expr} {te : TE} {op : Operator} {ti : TIp} {pos' : Pos} (hN : X.N.Nodup) (hi : X.N[i]? = some x) (hx : Loc X.env.scope x) (he : PE X e te) (ho : PIp X op ti) (hf : X.fn x = true ∨ X.env.scope.names.lookup x = some .local := by first | exact .inl rfl | exact .inr rfl | assumption) :
    PS X (.AugAssign (.Name x pos') op e pos) (tAug i te ti) := by
  intro pins s σ H D I h
  obtain ⟨v, e1, h⟩ := h
  obtain ⟨m, hn, hl⟩ := I.loc
  have vis : Vis X.env.scope x := by rcases hx with k | k; exact .inl k; exact .inr (.inl k)
  obtain ⟨u, r, l⟩ := hl i x v hi e1 vis
  refine wpAny_AugAssign_Name ?_
  have go : wpAny (model X.prog X.w) X.A (eval e X.env) (fun w s₂ => wpAny (model X.prog X.w) X.A (inplaceOp op u w) (fun r s₃ => wpAny (model X.prog X.w) X.A (storeName X.env x r) (fun _ => SP X pins D .next) X.xe s₃) X.xe s₂) X.xe s := by
    refine thn (he pins s σ H _ I h) fun w s1 ⟨y, H1, I1, r1, q1⟩ => ?_
    refine thn (ho pins s1 σ H1 v y u w _ I1 r r1 q1) fun z s2 ⟨zv, H2, I2, r2, q2⟩ => ?_
    exact store_ok I2 hN hi hx r2 (fun s3 I3 => ⟨_, H2, I3, q2⟩) hf
  rcases l with ⟨hk, hm⟩ | ⟨hk, c, hc, hcell⟩
  · exact wpAny_loadName_local I.ok.kind hk hn hm go
  · rcases hk with hk | hk
    · exact wpAny_loadName_cell I.ok.kind hk hc hcell go
    · rcases hx with k | k
      · have : X.env.scope.names.lookup x = some .free := hk
        rw [k] at this; cases this
      · have : X.env.scope.names.lookup x = some .free := hk
        rw [k] at this; cases this
/-- o[i] op= e -/
def tAugS (to ti te : TE) (tget : V → V → Hp → VK → Prop) (tip : TIp) (tset : TSet) : TS := fun D σ H => to σ H fun o H1 => ti σ H1 fun i H2 => tget o i H2 fun x H3 => te σ H3 fun y H4 => tip x y H4 fun z H5 => tset o i z H5 fun H6 => D.nx σ H6
/-- o[i], by values -/
def PGet (X : Cx) (t : V → V → Hp → VK → Prop) : Prop :=
  ∀ (pins : List (Addr × Obj)) (s : Shared) (σ : St) (H : Hp) (o i : V) (ov iv : Value) (Q : VK), Inv X pins σ H s → RelV o ov → RelV i iv → t o i H Q →
    wpAny (model X.prog X.w) X.A (getItem ov iv) (EP X pins σ Q) X.xe s
theorem ps_augS {o i e : Expr} {to ti te : TE} {tget : V → V → Hp → VK → Prop} {tip : TIp} {tset : TSet} {op : Operator} {tpos : Pos} (ho : PE X o to) (hi : PE X i ti) (hg : PGet X tget) (he : PE X e te) (hp : PIp X op tip) (hs : PSet X tset)
    (ha : ∀ ov iv new, augStore i ov iv new = (do holding [new, ov, iv] (setItem ov iv new); release [new, ov, iv] []; pure .next) := by intros; rfl) : PS X (.AugAssign (.Subscript o i tpos) op e pos) (tAugS to ti te tget tip tset) := by
  intro pins s σ H D I h
  refine wpAny_AugAssign_SubscriptAny (thn (ho pins s σ H _ I h) fun ov s1 ⟨x1, H1, I1, r1, q1⟩ => ?_) ha
  refine thn (hi pins s1 σ H1 _ I1 q1) fun iv s2 ⟨x2, H2, I2, r2, q2⟩ => ?_
  refine thn (hg pins s2 σ H2 x1 x2 ov iv _ I2 r1 r2 q2) fun old s3 ⟨x3, H3, I3, r3, q3⟩ => ?_
  refine thn (he pins s3 σ H3 _ I3 q3) fun v s4 ⟨x4, H4, I4, r4, q4⟩ => ?_
  refine thn (hp pins s4 σ H4 x3 x4 old v _ I4 r3 r4 q4) fun new s5 ⟨x5, H5, I5, r5, q5⟩ => ?_
  exact thn (hs pins s5 σ H5 x1 x2 x5 ov iv new _ I5 r1 r2 r5 q5) fun _ s6 ⟨H6, I6, q6⟩ => ⟨σ, H6, I6, q6⟩
/-- ints -/
def ipI (f : Int → Int → Int) : TIp := fun x y H Q => ∃ i j, x = .int i ∧ y = .int j ∧ Q (.int (f i j)) H
theorem ip_add : PIp X .Add (ipI fun i j => i + j) := by
  intro pins s σ H x y v u Q I r1 r2 h
  obtain ⟨i, j, e1, e2, q⟩ := h
  subst e1; subst e2
  obtain ⟨t, rfl⟩ := r1
  obtain ⟨t', rfl⟩ := r2
  exact iadd_int ⟨.int _, H, I.tok _, ⟨_, rfl⟩, q⟩
theorem ip_sub : PIp X .Sub (ipI fun i j => i - j) := by
  intro pins s σ H x y v u Q I r1 r2 h
  obtain ⟨i, j, e1, e2, q⟩ := h
  subst e1; subst e2
  obtain ⟨t, rfl⟩ := r1
  obtain ⟨t', rfl⟩ := r2
  exact isub_int ⟨.int _, H, I.tok _, ⟨_, rfl⟩, q⟩
end

/-! ### while -/
section
variable {X : Cx} {pos : Pos}
/-- the invariant W with its measure -/
def tWhile (c : TT) (tb : TS) : TS := fun D σ H => ∃ W : Nat → St → Hp → Prop, (∃ m, W m σ H) ∧ ∀ m σ H, W m σ H →
  c σ H fun b H1 => if b = true then ∃ N : St → Hp → Prop, (∀ σ' H', N σ' H' → ∃ m', m' < m ∧ W m' σ' H') ∧ tb { D with nx := N, ct := N, bk := D.nx } σ H1 else D.nx σ H1
theorem ps_while {c : Expr} {body : List Stmt} {tc : TT} {tb : TS} (hp : PassesOwn (model X.prog X.w) X.A X.env X.xe) (hc : PT X c tc) (hb : PSs X body tb) : PS X (.While c body [] pos) (tWhile tc tb) := by
  intro pins s σ H D I h
  obtain ⟨W, ⟨m0, w0⟩, turn⟩ := h
  refine wpAny_While (codeAny_whileLoop (fun n s' => ∃ σ' H', Inv X pins σ' H' s' ∧ W n σ' H') ?_ m0 ⟨σ, H, I, w0⟩)
  rintro n s1 ⟨σ1, H1, I1, w1⟩
  refine wpAny_passesOwn hp (thn (hc pins s1 σ1 H1 _ I1 (turn n σ1 H1 w1)) fun b s2 ⟨H2, I2, q2⟩ => ?_)
  cases b with
  | true =>
    obtain ⟨N, hN, q2⟩ := q2
    rw [if_pos rfl]
    refine wpAny_passesOwn hp (thn (hb pins s2 σ1 H2 _ I2 q2) fun f s3 q3 => ?_)
    cases f with
    | next =>
      obtain ⟨σ3, H3, I3, n3⟩ := q3
      obtain ⟨m', hm, w3⟩ := hN σ3 H3 n3
      exact ⟨m', hm, σ3, H3, I3, w3⟩
    | cont =>
      obtain ⟨σ3, H3, I3, n3⟩ := q3
      obtain ⟨m', hm, w3⟩ := hN σ3 H3 n3
      exact ⟨m', hm, σ3, H3, I3, w3⟩
    | brk => exact q3
    | ret v => exact q3
  | false =>
    rw [if_neg Bool.false_ne_true]
    exact wpAny_execs_nil ⟨σ1, H2, I2, q2⟩
end

/-! ### what a loop or a comprehension walks -/
/-- at turn i: it yields x (the heap may grow), or it stops -/
structure It where
  go : Nat → Hp → Prop
  yld : Nat → Hp → V → Hp → Prop
  stop : Nat → Hp → Prop
/-- the iterator's own objects may turn: they are not the frame's, not pinned, younger than the entry (or a comprehension's own) -/
def FpOk (X : Cx) (pins : List (Addr × Obj)) (H : Hp) (b : Addr) : Prop :=
  H b = none ∧ b ≠ X.env.locals ∧ b ∉ X.fs ∧ (b ∈ X.ex ∨ X.s_0.heap.objs.size ≤ b) ∧ (∀ x c, X.env.cells.lookup x = some c → c ≠ b) ∧ ∀ p ∈ X.pn ++ pins, p.1 ≠ b
theorem Inv.fpOk {X : Cx} {pins : List (Addr × Obj)} {σ : St} {H H' : Hp} {s : Shared} {b : Addr} (I : Inv X pins σ H s) (hb : s.heap.objs.size ≤ b) (hn : H' b = none) : FpOk X pins H' b := by
  refine ⟨hn, Nat.ne_of_gt (Nat.lt_of_lt_of_le I.lt hb), I.nofs hb, .inr (Nat.le_trans I.sz hb), fun x c e z => ?_, fun p hp z => ?_⟩
  · obtain ⟨v, q⟩ := I.cell x c e
    exact absurd (Nat.lt_of_lt_of_le q.lt (by rw [z]; exact hb)) (Nat.lt_irrefl _)
  · exact absurd (Nat.lt_of_lt_of_le (Heap.lt_size (I.pin p hp).1) (by rw [z]; exact hb)) (Nat.lt_irrefl _)
structure Turn (P : Program) (w : World) (K : PySem.W.Frag) (tg : Expr) (J : It) (fp : List Addr) (it : Addr) (tn : Nat → Heap → Prop) : Prop where
  mem : it ∈ fp
  obj : ∀ i h, tn i h → ∀ b ∈ fp, ∃ o, h.get? b = some o ∧ ∀ v, o.data ≠ .cell v
  keep : ∀ i h h', tn i h → (∀ b ∈ fp, ∀ o, h.get? b = some o → h'.get? b = some o) → tn i h'
  item : ∀ (X : Cx), X.prog = P → X.w = w → X.K = K → X.calm = true → ∀ (i : Nat) (pins : List (Addr × Obj)) (s : Shared) (σ : St) (H : Hp) (E : Value → Shared → Prop), Inv X pins σ H s → (∀ b ∈ fp, FpOk X pins H b) → tn i s.heap → J.go i H →
    wpAny (model P w) X.A (pyNext (.ref it)) (fun r s1 => ∃ u, r = some u ∧
      wpAny (model P w) X.A (letOwnedTupleGo tg (.ref it) u) (fun _ s2 => ∃ x H', Inv X pins σ H' s2 ∧ RelV x u ∧ J.yld i H x H' ∧ tn (i + 1) s2.heap ∧ ∀ b ∈ fp, H' b = none) E s1) E s
  done : ∀ (X : Cx), X.prog = P → X.w = w → X.K = K → X.calm = true → ∀ (i : Nat) (pins : List (Addr × Obj)) (s : Shared) (σ : St) (H : Hp) (E : Value → Shared → Prop), Inv X pins σ H s → (∀ b ∈ fp, FpOk X pins H b) → tn i s.heap → J.stop i H →
    wpAny (model P w) X.A (pyNext (.ref it)) (fun r s1 => r = none ∧ Inv X pins σ H s1) E s
  self : ∀ (A : Around) (i : Nat) (s : Shared) (Q : Value → Shared → Prop) (E : Value → Shared → Prop), tn i s.heap → Q (.ref it) s → wpAny (model P w) A (pyIter (.ref it)) Q E s
abbrev TI := St → Hp → (It → Hp → Prop) → Prop
/-- an iterator has come -/
def PIE (X : Cx) (pins : List (Addr × Obj)) (σ : St) (tg : Expr) (R : It → Hp → Prop) (itv : Value) (s2 : Shared) : Prop :=
  ∃ (it : Addr) (fp : List Addr) (tn : Nat → Heap → Prop) (J : It) (H' : Hp), itv = .ref it ∧ Inv X pins σ H' s2 ∧ Turn X.prog X.w X.K tg J fp it tn ∧ tn 0 s2.heap ∧ (∀ b ∈ fp, FpOk X pins H' b) ∧ R J H'
def PI (X : Cx) (tg iter : Expr) (wi : TI) : Prop :=
  ∀ (pins : List (Addr × Obj)) (s : Shared) (σ : St) (H : Hp) (R : It → Hp → Prop), Inv X pins σ H s → wi σ H R →
    wpAny (model X.prog X.w) X.A (eval iter X.env) (fun v s1 => wpAny (model X.prog X.w) X.A (pyIter v) (PIE X pins σ tg R) X.xe s1) X.xe s

/-- the step ahead of the store is nothing for an iterator that keeps no tuple -/
theorem go_of {M : Model} {A : Around} {E : Value → Shared → Prop} {s : Shared} {tg : Expr} {it : Addr} {u : Value} {o : Obj} {n : String} {vs : Array Value} {Q : Unit → Shared → Prop} (ho : s.heap.get? it = some o) (hc : o.cls = .type n) (hd : o.data = .fields vs)
    (hn : ["enumerate", "zip", "dict_itemiterator", "dict_reverseitemiterator", "odict_iterator", "itertools.zip_longest", "itertools.pairwise"].contains n = false) (hQ : Q () s) : wpAny M A (letOwnedTupleGo tg (.ref it) u) Q E s := by
  unfold letOwnedTupleGo
  cases tg <;> first
    | exact wpAny_pure hQ
    | (cases u <;> first
        | exact wpAny_pure hQ
        | (refine wpAny_bind (wpAny_load ho ?_)
           rw [hc, hd]
           show wpAny M A (if (["enumerate", "zip", "dict_itemiterator", "dict_reverseitemiterator", "odict_iterator", "itertools.zip_longest", "itertools.pairwise"].contains n && vs[0]? == some (rawInt _)) = true then _ else _) Q E s
           rw [if_neg (by intro h; rw [hn, Bool.false_and] at h; cases h)]
           exact wpAny_pure hQ))

/-- the list at a, as it stands at each turn (a loop may append to it) -/
def Itl (K : PySem.W.Frag) (a : Addr) : It :=
  ⟨fun i H => ∃ xs x, SqL K H a xs ∧ xs[i]? = some x, fun i H x H' => H' = H ∧ ∀ xs, SqL K H a xs → xs[i]? = some x, fun i H => ∃ xs, SqL K H a xs ∧ xs.length ≤ i⟩
def Itt (K : PySem.W.Frag) (a : Addr) : It :=
  ⟨fun i H => ∃ xs x, SqT K H a xs ∧ xs[i]? = some x, fun i H x H' => H' = H ∧ ∀ xs, SqT K H a xs → xs[i]? = some x, fun i H => ∃ xs, SqT K H a xs ∧ xs.length ≤ i⟩
/-- lo, lo + 1, .. (n of them) -/
def Itr (lo : Int) (n : Nat) : It := ⟨fun i _ => i < n, fun i H x H' => H' = H ∧ x = .int (lo + i), fun i _ => n ≤ i⟩
theorem turn_list {P : Program} {w : World} {K : PySem.W.Frag} {tg : Expr} (a it : Addr) : Turn P w K tg (Itl K a) [it] it (fun i h => h.IsListIter it a i) where
  mem := by simp
  obj := fun i h st b hb => by
    have e : b = it := by simpa using hb
    subst e
    obtain ⟨o, e, c, d⟩ := st
    exact ⟨o, e, fun v z => by rw [d] at z; cases z⟩
  keep := fun i h h' st k => st.at fun o e => k it (by simp) o e
  item := by
    intro X hP hw hK hc i pins s σ H E I hf st hg
    subst hP hw hK
    obtain ⟨xs, x, hq, hx⟩ := hg
    obtain ⟨its, rv, p, hz⟩ := I.list hq
    obtain ⟨u, hu, ru⟩ := rv.get hx
    obtain ⟨f0, f1, f2, f3, f4, f5⟩ := hf it (by simp)
    refine wpAny_pyNext_list_item st p.isList (x := u) (by simpa using hu) fun h' st' sb => ?_
    have I1 : Inv X pins σ H { s with heap := h' } := I.turned (t' := s.toks) (fun b o hb e => (sb.2 b hb).trans e) f0 f1 f3 f4 f5
    obtain ⟨o, e, c, d⟩ := id st'
    exact ⟨u, rfl, go_of (s := { s with heap := h' }) e c d (by decide) ⟨x, H, I1, ru, ⟨rfl, fun ys hy => by rw [I.list_inj hy hq]; exact hx⟩, st', fun b hb => (hf b hb).1⟩⟩
  done := by
    intro X hP hw hK hc i pins s σ H E I hf st hg
    subst hP hw hK
    obtain ⟨xs, hq, hx⟩ := hg
    obtain ⟨its, rv, p, hz⟩ := I.list hq
    obtain ⟨f0, f1, f2, f3, f4, f5⟩ := hf it (by simp)
    have hl := rv.length
    exact wpAny_pyNext_list_end (I.ok.hd hc) st p.isList (by simp; omega) fun h' eb => ⟨rfl, I.turned (t' := s.toks) (fun b o hb e => eb b o hb e) f0 f1 f3 f4 f5⟩
  self := fun _ _ _ _ _ st h => wpAny_pyIter_listiter st h
theorem turn_tuple {P : Program} {w : World} {K : PySem.W.Frag} {tg : Expr} (a it : Addr) : Turn P w K tg (Itt K a) [it] it (fun i h => h.IsTupleIter it a i) where
  mem := by simp
  obj := fun i h st b hb => by
    have e : b = it := by simpa using hb
    subst e
    obtain ⟨o, e, c, d⟩ := st
    exact ⟨o, e, fun v z => by rw [d] at z; cases z⟩
  keep := fun i h h' st k => st.at fun o e => k it (by simp) o e
  item := by
    intro X hP hw hK hc i pins s σ H E I hf st hg
    subst hP hw hK
    obtain ⟨xs, x, hq, hx⟩ := hg
    obtain ⟨its, rv, p, hz⟩ := I.tuple hq
    obtain ⟨u, hu, ru⟩ := rv.get hx
    obtain ⟨f0, f1, f2, f3, f4, f5⟩ := hf it (by simp)
    refine wpAny_pyNext_tuple_item st (show s.heap.IsTuple a its.toArray from p) (x := u) (by simpa using hu) fun h' st' sb => ?_
    have I1 : Inv X pins σ H { s with heap := h' } := I.turned (t' := s.toks) (fun b o hb e => (sb.2 b hb).trans e) f0 f1 f3 f4 f5
    obtain ⟨o, e, c, d⟩ := id st'
    exact ⟨u, rfl, go_of (s := { s with heap := h' }) e c d (by decide) ⟨x, H, I1, ru, ⟨rfl, fun ys hy => by rw [I.tuple_inj hy hq]; exact hx⟩, st', fun b hb => (hf b hb).1⟩⟩
  done := by
    intro X hP hw hK hc i pins s σ H E I hf st hg
    subst hP hw hK
    obtain ⟨xs, hq, hx⟩ := hg
    obtain ⟨its, rv, p, hz⟩ := I.tuple hq
    obtain ⟨f0, f1, f2, f3, f4, f5⟩ := hf it (by simp)
    have hl := rv.length
    exact wpAny_pyNext_tuple_end (I.ok.hd hc) st (show s.heap.IsTuple a its.toArray from p) (by simp; omega) fun h' eb => ⟨rfl, I.turned (t' := s.toks) (fun b o hb e => eb b o hb e) f0 f1 f3 f4 f5⟩
  self := fun _ _ _ _ _ st h => wpAny_pyIter_tupleiter st h
theorem turn_range {P : Program} {w : World} {K : PySem.W.Frag} {tg : Expr} (it : Addr) (lo : Int) (n : Nat) : Turn P w K tg (Itr lo n) [it] it (fun i h => IsRangeIter h it (lo + (i : Nat) * 1) ((n : Int) - (i : Nat)) 1) where
  mem := by simp
  obj := fun i h st b hb => by
    have e : b = it := by simpa using hb
    subst e
    exact ⟨_, st, fun v z => by
      have z' : Data.fields _ = Data.cell v := z
      cases z'⟩
  keep := fun i h h' st k => k it (by simp) _ st
  item := by
    intro X hP hw hK hc i pins s σ H E I hf st hg
    subst hP hw hK
    obtain ⟨f0, f1, f2, f3, f4, f5⟩ := hf it (by simp)
    have W := Walks.range (prog := X.prog) (w := X.w) (I.ok.hd hc) it lo 1 n
    refine W.item i s _ _ hg st fun v h' tk hv st' kk => ?_
    obtain ⟨t, rfl⟩ := hv
    have I1 : Inv X pins σ H { s with heap := h', toks := tk } := I.turned (fun b o hb e => kk b o (by simpa using hb) e) f0 f1 f3 f4 f5
    refine ⟨_, rfl, go_of (s := { s with heap := h', toks := tk }) (n := "range_iterator") st' rfl rfl (by decide) ⟨.int (lo + i), H, I1, ⟨t, ?_⟩, ⟨rfl, rfl⟩, st', fun b hb => (hf b hb).1⟩⟩
    rw [Int.mul_one]
  done := by
    intro X hP hw hK hc i pins s σ H E I hf st hg
    subst hP hw hK
    obtain ⟨f0, f1, f2, f3, f4, f5⟩ := hf it (by simp)
    exact wpAny_pyNext_range_end (I.ok.hd hc) st (by have : n ≤ i := hg; omega) fun h' eb => ⟨rfl, I.turned (t' := s.toks) (fun b o hb e => eb b o hb e) f0 f1 f3 f4 f5⟩
  self := fun _ _ _ _ _ st h => wpAny_pyIter_rangeiter st h
end L2

namespace L2
open PySem PySem.Spec PyProof.Rows
section
variable {X : Cx} {tg : Expr}
def iList (K : PySem.W.Frag) (tl : TE) : TI := fun σ H R => tl σ H fun x H1 => ∃ a, x = .ref a ∧ (∃ xs, SqL K H1 a xs) ∧ R (Itl K a) H1
def iTup (K : PySem.W.Frag) (tl : TE) : TI := fun σ H R => tl σ H fun x H1 => ∃ a, x = .ref a ∧ (∃ xs, SqT K H1 a xs) ∧ R (Itt K a) H1
theorem pi_list {l : Expr} {tl : TE} (hl : PE X l tl) : PI X tg l (iList X.K tl) := by
  intro pins s σ H R I h
  refine thn (hl pins s σ H _ I h) fun v s1 ⟨x, H1, I1, r1, q1⟩ => ?_
  obtain ⟨a, e, ⟨xs, hq⟩, q⟩ := q1
  subst e
  cases r1
  obtain ⟨its, rv, p, hz⟩ := I1.list hq
  refine wpAny_pyIter_list p.isList ?_
  refine ⟨s1.heap.objs.size, [s1.heap.objs.size], _, _, H1, rfl, I1.kept (t' := s1.toks) fun b o e => Heap.get?_push_of_some _ e, turn_list a _, ⟨_, Heap.get?_push_size _ rfl, rfl, rfl⟩, fun b hb => ?_, q⟩
  have e : b = s1.heap.objs.size := by simpa using hb
  subst e
  exact I1.fpOk (Nat.le_refl _) (I1.hok.fresh (Nat.le_refl _))
theorem pi_tup {l : Expr} {tl : TE} (hl : PE X l tl) : PI X tg l (iTup X.K tl) := by
  intro pins s σ H R I h
  refine thn (hl pins s σ H _ I h) fun v s1 ⟨x, H1, I1, r1, q1⟩ => ?_
  obtain ⟨a, e, ⟨xs, hq⟩, q⟩ := q1
  subst e
  cases r1
  obtain ⟨its, rv, p, hz⟩ := I1.tuple hq
  refine wpAny_pyIter_tuple (show s1.heap.IsTuple a its.toArray from p) ?_
  refine ⟨s1.heap.objs.size, [s1.heap.objs.size], _, _, H1, rfl, I1.kept (t' := s1.toks) fun b o e => Heap.get?_push_of_some _ e, turn_tuple a _, ⟨_, Heap.get?_push_size _ rfl, rfl, rfl⟩, fun b hb => ?_, q⟩
  have e : b = s1.heap.objs.size := by simpa using hb
  subst e
  exact I1.fpOk (Nat.le_refl _) (I1.hok.fresh (Nat.le_refl _))
/-- a range object just made, walked -/
theorem range_it {pins : List (Addr × Obj)} {σ : St} {H : Hp} {s : Shared} {R : It → Hp → Prop} {E : Value → Shared → Prop} {lo hi : Int} {t u v : Tok} {tk : Nat} (I : Inv X pins σ H s) (h1 : -(2 ^ 62) ≤ lo) (h2 : lo < 2 ^ 62) (h3 : -(2 ^ 62) ≤ hi) (h4 : hi < 2 ^ 62)
    (q : R (Itr lo (hi - lo).toNat) H) : wpAny (model X.prog X.w) X.A (pyIter (.ref s.heap.objs.size)) (PIE X pins σ tg R) E { s with heap := s.heap.push { cls := .type "range", data := .fields #[.int lo t, .int hi u, .int 1 v] }, toks := tk } := by
  refine wpAny_pyIter_range (IsRange.new ..) (small_one h1 h2 h3 h4) ?_
  have I1 : Inv X pins σ H { s with heap := s.heap.push { cls := .type "range", data := .fields #[.int lo t, .int hi u, .int 1 v] }, toks := tk } := I.kept fun b o e => Heap.get?_push_of_some _ e
  refine ⟨(s.heap.push { cls := .type "range", data := .fields #[.int lo t, .int hi u, .int 1 v] }).objs.size, [(s.heap.push { cls := .type "range", data := .fields #[.int lo t, .int hi u, .int 1 v] }).objs.size], _, _, H, rfl,
    I1.kept (t' := tk) fun b o e => Heap.get?_push_of_some _ e, turn_range _ lo (hi - lo).toNat, ?_, fun b hb => ?_, q⟩
  · have e1 : lo + ((0 : Nat) : Int) * 1 = lo := by simp
    have e2 : (((hi - lo).toNat : Nat) : Int) - ((0 : Nat) : Int) = Builtin.Range.rangeSize lo hi 1 := by rw [rangeSize_one]; split <;> omega
    show IsRangeIter _ _ (lo + ((0 : Nat) : Int) * 1) ((((hi - lo).toNat : Nat) : Int) - ((0 : Nat) : Int)) 1
    rw [e1, e2]
    exact Heap.get?_push_size _ rfl
  · have e : b = (s.heap.push { cls := .type "range", data := .fields #[.int lo t, .int hi u, .int 1 v] }).objs.size := by simpa using hb
    subst e
    exact I1.fpOk (Nat.le_refl _) (I1.hok.fresh (Nat.le_refl _))
def iRng1 (ta : TA) : TI := fun σ H R => ta σ H fun vs H1 => ∃ j : Int, vs = [.int j] ∧ -(2 ^ 62) ≤ j ∧ j < 2 ^ 62 ∧ R (Itr 0 j.toNat) H1
def iRng2 (ta : TA) : TI := fun σ H R => ta σ H fun vs H1 => ∃ i j : Int, vs = [.int i, .int j] ∧ (-(2 ^ 62) ≤ i ∧ i < 2 ^ 62 ∧ -(2 ^ 62) ≤ j ∧ j < 2 ^ 62) ∧ R (Itr i (j - i).toNat) H1
theorem pi_range1 {a : Expr} {ta : TA} {p pos : Pos} (hg : Gl X "range") (hm : X.mg "range" = none) (ha : PA X [a] ta) (hs : starEach [a] X.env = [(false, eval a X.env)] := by rfl) : PI X tg (.Call (.Name "range" p) [a] [] pos) (iRng1 ta) := by
  intro pins s σ H R I h
  refine Call_ (ld_blt I hg hm boot_range (PyProof.Rows.callWith_type1 (thn (ha pos pins s σ H _ I h) fun us s1 ⟨vs, H1, I1, r1, q1⟩ => ?_) hs rfl))
  obtain ⟨j, e, q1, q2, q⟩ := q1
  subst e
  cases r1 with
  | cons r rr =>
    cases rr
    obtain ⟨t, rfl⟩ := r
    exact call_range_1 (range_it I1 (by omega) (by omega) q1 q2 (by simpa using q))
theorem pi_range2 {a b : Expr} {ta : TA} {p pos : Pos} (hg : Gl X "range") (hm : X.mg "range" = none) (ha : PA X [a, b] ta) (hs : starEach [a, b] X.env = [(false, eval a X.env), (false, eval b X.env)] := by rfl) (hs2 : starEach [b] X.env = [(false, eval b X.env)] := by rfl) :
    PI X tg (.Call (.Name "range" p) [a, b] [] pos) (iRng2 ta) := by
  intro pins s σ H R I h
  refine Call_ (ld_blt I hg hm boot_range (PyProof.Rows.callWith_type1 (thn (ha pos pins s σ H _ I h) fun us s1 ⟨vs, H1, I1, r1, q1⟩ => ?_) (by rw [hs, hs2]) (by rw [hs2]; rfl)))
  obtain ⟨i, j, e, ⟨q1, q2, q3, q4⟩, q⟩ := q1
  subst e
  cases r1 with
  | cons r rr =>
    cases rr with
    | cons r' rr =>
      cases rr
      obtain ⟨t, rfl⟩ := r
      obtain ⟨t', rfl⟩ := r'
      exact call_range_2 (range_it I1 q1 q2 q3 q4 q)

/-! ### for -/
/-- W: the invariant by the turn and a measure; N: what the body is to reach -/
def tFor (wi : TI) (g : TG) (tb : TS) : TS := fun D σ H => wi σ H fun J H1 => ∃ W : Nat → Nat → St → Hp → Prop, (∃ m, W 0 m σ H1) ∧ ∀ i m σ H, W i m σ H →
  (J.stop i H ∧ D.nx σ H) ∨ (J.go i H ∧ ∃ N : St → Hp → Prop, (∀ σ' H', N σ' H' → ∃ m', m' < m ∧ W (i + 1) m' σ' H') ∧ ∀ x H', J.yld i H x H' → g x σ H' fun σ2 H2 => tb { D with nx := N, ct := N, bk := D.nx } σ2 H2)
/-- the records at fp as they stand -/
def pinsAt (fp : List Addr) (h : Heap) : List (Addr × Obj) := fp.filterMap fun b => (h.get? b).map fun o => (b, o)
theorem mem_pinsAt {fp : List Addr} {h : Heap} {b : Addr} {o : Obj} (hb : b ∈ fp) (e : h.get? b = some o) : (b, o) ∈ pinsAt fp h := List.mem_filterMap.mpr ⟨b, hb, by rw [e]; rfl⟩
theorem of_pinsAt {fp : List Addr} {h : Heap} {p : Addr × Obj} (hp : p ∈ pinsAt fp h) : p.1 ∈ fp ∧ h.get? p.1 = some p.2 := by
  obtain ⟨b, hb, e⟩ := List.mem_filterMap.mp hp
  cases q : h.get? b with
  | none => rw [q] at e; cases e
  | some o =>
    rw [q] at e
    have e' : (b, o) = p := Option.some.inj e
    subst e'
    exact ⟨hb, q⟩
theorem Inv.pinned {pins : List (Addr × Obj)} {σ : St} {H : Hp} {s : Shared} {fp : List Addr} (I : Inv X pins σ H s) (hf : ∀ b ∈ fp, FpOk X pins H b) (ho : ∀ b ∈ fp, ∃ o, s.heap.get? b = some o ∧ ∀ v, o.data ≠ .cell v) : Inv X (pins ++ pinsAt fp s.heap) σ H s :=
  I.pins_of fun p hp => (List.mem_append.mp hp).elim (fun z => I.pin p (List.mem_append_right _ z)) fun z => by
    obtain ⟨hb, e⟩ := of_pinsAt z
    obtain ⟨f0, f1, f2, _⟩ := hf p.1 hb
    obtain ⟨o, e', d⟩ := ho p.1 hb
    rw [e] at e'; cases e'
    exact ⟨e, f0, f1, f2, d⟩
theorem Inv.unpinned {pins pl : List (Addr × Obj)} {σ : St} {H : Hp} {s : Shared} (I : Inv X (pins ++ pl) σ H s) : Inv X pins σ H s := I.pins_of fun p hp => I.pin p (List.mem_append_right _ (List.mem_append_left _ hp))
theorem ps_for {iter : Expr} {body : List Stmt} {wi : TI} {g : TG} {tb : TS} {pos : Pos} (hp : PassesOwn (model X.prog X.w) X.A X.env X.xe) (hc : X.calm = true) (hi : PI X tg iter wi) (hg : PG X tg g) (hb : PSs X body tb)
    (hs : ∀ x, foldedSetIterable iter X.env x = pure x := by intro _; rfl) : PS X (.For tg iter body [] pos) (tFor wi g tb) := by
  intro pins s σ H D I h
  refine wpAny_For (thn (hi pins s σ H _ I h) fun v s1 h1 => thn h1 fun itv s2 h2 => ?_) hs
  obtain ⟨it, fp, tn, J, H2, e, I2, T, st2, f2, W, ⟨m0, w0⟩, turn⟩ := h2
  subst e
  -- what stays true of the iterator's objects through the loop
  have stat : ∀ {H' : Hp}, (∀ b ∈ fp, H' b = none) → ∀ b ∈ fp, FpOk X pins H' b := fun hn b hb => ⟨hn b hb, (f2 b hb).2⟩
  refine codeAny_forLoop_any (fun n s' => ∃ i σ' H', Inv X pins σ' H' s' ∧ tn i s'.heap ∧ (∀ b ∈ fp, H' b = none) ∧ W i n σ' H') ?_ m0 ⟨0, σ, H2, I2, st2, fun b hb => (f2 b hb).1, w0⟩
  rintro n s3 ⟨i, σ3, H3, I3, st3, fr3, w3⟩
  rcases turn i n σ3 H3 w3 with ⟨stop, qn⟩ | ⟨go, N, hN, step⟩
  · refine wpAny_passesOwn hp (thn (T.done X rfl rfl rfl hc i pins s3 σ3 H3 X.xe I3 (stat fr3) st3 stop) fun r s4 ⟨hr, I4⟩ => ?_)
    subst hr
    exact wpAny_execs_nil ⟨σ3, H3, I4, qn⟩
  · refine wpAny_passesOwn hp (thn (T.item X rfl rfl rfl hc i pins s3 σ3 H3 X.xe I3 (stat fr3) st3 go) fun r s4 ⟨u, hr, h4⟩ => ?_)
    subst hr
    refine wpAny_passesOwn hp (thn h4 fun _ s5 ⟨x, H5, I5, r5, y5, st5, fr5⟩ => ?_)
    have I5' := I5.pinned (stat fr5) (T.obj _ _ st5)
    refine wpAny_passesOwn hp (thn (hg _ s5 σ3 H5 x u _ I5' r5 (step x H5 y5)) fun _ s6 ⟨σ6, H6, I6, q6⟩ => ?_)
    refine wpAny_passesOwn hp (thn (hb _ s6 σ6 H6 _ I6 q6) fun f s7 q7 => ?_)
    have again : ∀ {σ7 : St} {H7 : Hp}, Inv X (pins ++ pinsAt fp s5.heap) σ7 H7 s7 → N σ7 H7 → ∃ m, m < n ∧ ∃ i σ' H', Inv X pins σ' H' s7 ∧ tn i s7.heap ∧ (∀ b ∈ fp, H' b = none) ∧ W i m σ' H' := fun {σ7 H7} I7 n7 => by
      obtain ⟨m', hm, w7⟩ := hN σ7 H7 n7
      refine ⟨m', hm, i + 1, σ7, H7, I7.unpinned, T.keep _ _ _ st5 fun b hb o e => (I7.pin (b, o) (List.mem_append_right _ (List.mem_append_right _ (mem_pinsAt hb e)))).1, fun b hb => ?_, w7⟩
      obtain ⟨o, e, d⟩ := T.obj _ _ st5 b hb
      exact (I7.pin (b, o) (List.mem_append_right _ (List.mem_append_right _ (mem_pinsAt hb e)))).2.1
    cases f with
    | next => obtain ⟨σ7, H7, I7, n7⟩ := q7; exact again I7 n7
    | cont => obtain ⟨σ7, H7, I7, n7⟩ := q7; exact again I7 n7
    | brk => obtain ⟨σ7, H7, I7, q7⟩ := q7; exact ⟨σ7, H7, I7.unpinned, q7⟩
    | ret v => obtain ⟨x7, σ7, H7, I7, r7, q7⟩ := q7; exact ⟨x7, σ7, H7, I7.unpinned, r7, q7⟩
end

/-! ### the forms one uses -/
/-- over a list that the body leaves as it is -/
theorem for_list {K : PySem.W.Frag} {a : Addr} {xs : List V} {g : TG} {tb : TS} {D : Ends} {σ : St} {H : Hp} (Pv : Nat → St → Hp → Prop) (h0 : Pv 0 σ H) (hl : ∀ i σ H, i ≤ xs.length → Pv i σ H → SqL K H a xs)
    (hs : ∀ i x σ H, xs[i]? = some x → Pv i σ H → g x σ H fun σ2 H2 => tb { D with nx := Pv (i + 1), ct := Pv (i + 1), bk := D.nx } σ2 H2) (hd : ∀ σ H, Pv xs.length σ H → D.nx σ H) :
    ∃ W : Nat → Nat → St → Hp → Prop, (∃ m, W 0 m σ H) ∧ ∀ i m σ H, W i m σ H →
      ((Itl K a).stop i H ∧ D.nx σ H) ∨ ((Itl K a).go i H ∧ ∃ N : St → Hp → Prop, (∀ σ' H', N σ' H' → ∃ m', m' < m ∧ W (i + 1) m' σ' H') ∧ ∀ x H', (Itl K a).yld i H x H' → g x σ H' fun σ2 H2 => tb { D with nx := N, ct := N, bk := D.nx } σ2 H2) := by
  refine ⟨fun i m σ H => m = xs.length - i ∧ i ≤ xs.length ∧ Pv i σ H, ⟨xs.length, by simp, Nat.zero_le _, h0⟩, ?_⟩
  rintro i m σ H ⟨rfl, hi, p⟩
  have q := hl i σ H hi p
  by_cases hlt : i < xs.length
  · refine .inr ⟨⟨xs, xs[i], q, by simp [hlt]⟩, Pv (i + 1), fun σ' H' p' => ⟨xs.length - (i + 1), by omega, rfl, hlt, p'⟩, fun x H' y => ?_⟩
    obtain ⟨e, y⟩ := y
    subst e
    exact hs i x σ _ (y xs q) p
  · have e : i = xs.length := by omega
    subst e
    exact .inl ⟨⟨xs, q, Nat.le_refl _⟩, hd σ H p⟩
theorem for_tup {K : PySem.W.Frag} {a : Addr} {xs : List V} {g : TG} {tb : TS} {D : Ends} {σ : St} {H : Hp} (Pv : Nat → St → Hp → Prop) (h0 : Pv 0 σ H) (hl : ∀ i σ H, i ≤ xs.length → Pv i σ H → SqT K H a xs)
    (hs : ∀ i x σ H, xs[i]? = some x → Pv i σ H → g x σ H fun σ2 H2 => tb { D with nx := Pv (i + 1), ct := Pv (i + 1), bk := D.nx } σ2 H2) (hd : ∀ σ H, Pv xs.length σ H → D.nx σ H) :
    ∃ W : Nat → Nat → St → Hp → Prop, (∃ m, W 0 m σ H) ∧ ∀ i m σ H, W i m σ H →
      ((Itt K a).stop i H ∧ D.nx σ H) ∨ ((Itt K a).go i H ∧ ∃ N : St → Hp → Prop, (∀ σ' H', N σ' H' → ∃ m', m' < m ∧ W (i + 1) m' σ' H') ∧ ∀ x H', (Itt K a).yld i H x H' → g x σ H' fun σ2 H2 => tb { D with nx := N, ct := N, bk := D.nx } σ2 H2) := by
  refine ⟨fun i m σ H => m = xs.length - i ∧ i ≤ xs.length ∧ Pv i σ H, ⟨xs.length, by simp, Nat.zero_le _, h0⟩, ?_⟩
  rintro i m σ H ⟨rfl, hi, p⟩
  have q := hl i σ H hi p
  by_cases hlt : i < xs.length
  · refine .inr ⟨⟨xs, xs[i], q, by simp [hlt]⟩, Pv (i + 1), fun σ' H' p' => ⟨xs.length - (i + 1), by omega, rfl, hlt, p'⟩, fun x H' y => ?_⟩
    obtain ⟨e, y⟩ := y
    subst e
    exact hs i x σ _ (y xs q) p
  · have e : i = xs.length := by omega
    subst e
    exact .inl ⟨⟨xs, q, Nat.le_refl _⟩, hd σ H p⟩
theorem for_range {lo : Int} {n : Nat} {g : TG} {tb : TS} {D : Ends} {σ : St} {H : Hp} (Pv : Nat → St → Hp → Prop) (h0 : Pv 0 σ H)
    (hs : ∀ i σ H, i < n → Pv i σ H → g (.int (lo + i)) σ H fun σ2 H2 => tb { D with nx := Pv (i + 1), ct := Pv (i + 1), bk := D.nx } σ2 H2) (hd : ∀ σ H, Pv n σ H → D.nx σ H) :
    ∃ W : Nat → Nat → St → Hp → Prop, (∃ m, W 0 m σ H) ∧ ∀ i m σ H, W i m σ H →
      ((Itr lo n).stop i H ∧ D.nx σ H) ∨ ((Itr lo n).go i H ∧ ∃ N : St → Hp → Prop, (∀ σ' H', N σ' H' → ∃ m', m' < m ∧ W (i + 1) m' σ' H') ∧ ∀ x H', (Itr lo n).yld i H x H' → g x σ H' fun σ2 H2 => tb { D with nx := N, ct := N, bk := D.nx } σ2 H2) := by
  refine ⟨fun i m σ H => m = n - i ∧ i ≤ n ∧ Pv i σ H, ⟨n, by simp, Nat.zero_le _, h0⟩, ?_⟩
  rintro i m σ H ⟨rfl, hi, p⟩
  by_cases hlt : i < n
  · refine .inr ⟨hlt, Pv (i + 1), fun σ' H' p' => ⟨n - (i + 1), by omega, rfl, hlt, p'⟩, fun x H' y => ?_⟩
    obtain ⟨e, y⟩ := y
    subst e y
    exact hs i σ _ hlt p
  · have e : i = n := by omega
    subst e
    exact .inl ⟨Nat.le_refl _, hd σ H p⟩
/-- while, by a word and a measure of the state -/
theorem while_by {c : TT} {tb : TS} {D : Ends} {σ : St} {H : Hp} (Pv : St → Hp → Prop) (μ : St → Hp → Nat) (h0 : Pv σ H)
    (hs : ∀ σ H, Pv σ H → c σ H fun b H1 => if b = true then tb { D with nx := fun σ' H' => Pv σ' H' ∧ μ σ' H' < μ σ H, ct := fun σ' H' => Pv σ' H' ∧ μ σ' H' < μ σ H, bk := D.nx } σ H1 else D.nx σ H1)
    (mono : ∀ σ H Q Q', (∀ b H1, Q b H1 → Q' b H1) → c σ H Q → c σ H Q') : tWhile c tb D σ H := by
  refine ⟨fun m σ H => m = μ σ H ∧ Pv σ H, ⟨_, rfl, h0⟩, ?_⟩
  rintro m σ H ⟨rfl, p⟩
  refine mono σ H _ _ (fun b H1 q => ?_) (hs σ H p)
  cases b with
  | true => exact ⟨_, fun σ' H' ⟨p', l⟩ => ⟨_, l, rfl, p'⟩, q⟩
  | false => exact q
end L2

namespace L2
open PySem PySem.Spec PyProof.Rows

abbrev R2 := V → V → Hp → VK → Prop
/-- a two-place operation on values: f is binaryOp op, inplaceOp op or compareOp op -/
def OpR (X : Cx) (f : Value → Value → Sem Value) (r : R2) : Prop :=
  ∀ (pins : List (Addr × Obj)) (s : Shared) (σ : St) (H : Hp) (x y : V) (v u : Value) (Q : VK), Inv X pins σ H s → RelV x v → RelV y u → r x y H Q →
    wpAny (model X.prog X.w) X.A (f v u) (EP X pins σ Q) X.xe s
/-- a one-place operation -/
def UnR (X : Cx) (f : Value → Sem Value) (r : V → Hp → VK → Prop) : Prop :=
  ∀ (pins : List (Addr × Obj)) (s : Shared) (σ : St) (H : Hp) (x : V) (v : Value) (Q : VK), Inv X pins σ H s → RelV x v → r x H Q →
    wpAny (model X.prog X.w) X.A (f v) (EP X pins σ Q) X.xe s
/-- a call of a value that is known (a builtin, a type) with values -/
def CallR (X : Cx) (f : Value) (r : List V → Hp → VK → Prop) : Prop :=
  ∀ (pins : List (Addr × Obj)) (s : Shared) (σ : St) (H : Hp) (xs : List V) (us : List Value) (Q : VK), Inv X pins σ H s → Vals xs us → r xs H Q →
    wpAny (model X.prog X.w) X.A (call f us) (EP X pins σ Q) X.xe s
/-- a value's truth -/
def TruR (X : Cx) (r : V → Hp → (Bool → Hp → Prop) → Prop) : Prop :=
  ∀ (pins : List (Addr × Obj)) (s : Shared) (σ : St) (H : Hp) (x : V) (v : Value) (Q : Bool → Hp → Prop), Inv X pins σ H s → RelV x v → r x H Q →
    wpAny (model X.prog X.w) X.A (truthy v) (TP X pins σ Q) X.xe s

def tOp (r : R2) (ta tb : TE) : TE := fun σ H Q => ta σ H fun x H1 => tb σ H1 fun y H2 => r x y H2 Q
def tUn (r : V → Hp → VK → Prop) (ta : TE) : TE := fun σ H Q => ta σ H fun x H1 => r x H1 Q
/-- ints in, under C, and a value out -/
def rI (C : Int → Int → Prop) (g : Int → Int → V) : R2 := fun x y H Q => ∃ i j, x = .int i ∧ y = .int j ∧ C i j ∧ Q (g i j) H
def rI0 (g : Int → Int → V) : R2 := fun x y H Q => ∃ i j, x = .int i ∧ y = .int j ∧ Q (g i j) H
def rU (g : Int → V) : V → Hp → VK → Prop := fun x H Q => ∃ i, x = .int i ∧ Q (g i) H

section
variable {X : Cx} {a b c : Expr} {ta tb tc : TE} {pos : Pos}

theorem binT (ha : PE X a ta) (hb : PE X b tb) {pins : List (Addr × Obj)} {s : Shared} {σ : St} {H : Hp} {R : V → V → Hp → Prop} (I : Inv X pins σ H s)
    (h : ta σ H fun x H1 => tb σ H1 fun y H2 => R x y H2) {Q : Value → Shared → Prop} {f : Value → Value → Sem Value}
    (hf : ∀ v u s2 x y H2, Inv X pins σ H2 s2 → RelV x v → RelV y u → R x y H2 → wpAny (model X.prog X.w) X.A (f v u) Q X.xe s2) :
    wpAny (model X.prog X.w) X.A (eval a X.env) (fun v s₁ => wpAny (model X.prog X.w) X.A (eval b X.env) (fun u s₂ => wpAny (model X.prog X.w) X.A (f v u) Q X.xe s₂) X.xe s₁) X.xe s := by
  refine thn (ha pins s σ H _ I h) fun v s1 ⟨x, H1, I1, r1, q1⟩ => ?_
  refine thn (hb pins s1 σ H1 _ I1 q1) fun u s2 ⟨y, H2, I2, r2, q2⟩ => ?_
  exact hf v u s2 x y H2 I2 r1 r2 q2

theorem pe_op {op : Operator} {r : R2} (ho : OpR X (binaryOp op) r) (ha : PE X a ta) (hb : PE X b tb) : PE X (.BinOp a op b pos) (tOp r ta tb) := by
  intro pins s σ H Q I h
  exact wpAny_BinOp (binT ha hb I h fun v u s2 x y H2 I2 rx ry q => ho pins s2 σ H2 x y v u Q I2 rx ry q)
theorem pe_un {op : UnaryOp} {r : V → Hp → VK → Prop} (ho : UnR X (unaryOp op) r) (ha : PE X a ta) : PE X (.UnaryOp op a pos) (tUn r ta) := by
  intro pins s σ H Q I h
  exact UnaryOp_ (thn (ha pins s σ H _ I h) fun v s1 ⟨x, H1, I1, r1, q1⟩ => ho pins s1 σ H1 x v Q I1 r1 q1)
/-- a op= e at a name: the name's slot i -/
theorem augR {op : Operator} {r : R2} (ho : OpR X (inplaceOp op) r) {pins : List (Addr × Obj)} {s : Shared} {σ : St} {H : Hp} {x y : V} {v u : Value} {Q : VK} (I : Inv X pins σ H s)
    (rx : RelV x v) (ry : RelV y u) (q : r x y H Q) : wpAny (model X.prog X.w) X.A (inplaceOp op v u) (EP X pins σ Q) X.xe s := ho pins s σ H x y v u Q I rx ry q

/-! ### ints -/
theorem opI {f : Value → Value → Sem Value} {C : Int → Int → Prop} {g : Int → Int → Int}
    (rule : ∀ (i j : Int) (t u : Tok) (s : Shared) (Q : Value → Shared → Prop) (E : Value → Shared → Prop), C i j → Q (.int (g i j) s.toks) { s with toks := s.toks + 1 } → wpAny (model X.prog X.w) X.A (f (.int i t) (.int j u)) Q E s) :
    OpR X f (rI C fun i j => .int (g i j)) := by
  intro pins s σ H x y v u Q I rx ry h
  obtain ⟨i, j, rfl, rfl, hc, q⟩ := h
  obtain ⟨t, rfl⟩ := rx
  obtain ⟨t', rfl⟩ := ry
  exact rule i j t t' s _ _ hc ⟨.int (g i j), H, I.tok _, ⟨_, rfl⟩, q⟩
theorem opI0 {f : Value → Value → Sem Value} {g : Int → Int → Int}
    (rule : ∀ (i j : Int) (t u : Tok) (s : Shared) (Q : Value → Shared → Prop) (E : Value → Shared → Prop), Q (.int (g i j) s.toks) { s with toks := s.toks + 1 } → wpAny (model X.prog X.w) X.A (f (.int i t) (.int j u)) Q E s) :
    OpR X f (rI0 fun i j => .int (g i j)) := by
  intro pins s σ H x y v u Q I rx ry h
  obtain ⟨i, j, rfl, rfl, q⟩ := h
  obtain ⟨t, rfl⟩ := rx
  obtain ⟨t', rfl⟩ := ry
  exact rule i j t t' s _ _ ⟨.int (g i j), H, I.tok _, ⟨_, rfl⟩, q⟩
theorem opB0 {f : Value → Value → Sem Value} {g : Int → Int → Bool}
    (rule : ∀ (i j : Int) (t u : Tok) (s : Shared) (Q : Value → Shared → Prop) (E : Value → Shared → Prop), Q (.bool (g i j)) s → wpAny (model X.prog X.w) X.A (f (.int i t) (.int j u)) Q E s) :
    OpR X f (rI0 fun i j => .bl (g i j)) := by
  intro pins s σ H x y v u Q I rx ry h
  obtain ⟨i, j, rfl, rfl, q⟩ := h
  obtain ⟨t, rfl⟩ := rx
  obtain ⟨t', rfl⟩ := ry
  exact rule i j t t' s _ _ ⟨.bl (g i j), H, I, rfl, q⟩

def CDiv (i j : Int) : Prop := 0 < j ∧ j < 1073741824
def CDivN (i j : Int) : Prop := j ≠ 0 ∧ j.natAbs < 1073741824
def CPow (i j : Int) : Prop := 0 ≤ j ∧ j ≤ 1000000 ∧ i.natAbs < 2 ^ 64
def CMul (i j : Int) : Prop := (-(2 ^ 64) < i ∧ i < 2 ^ 64) ∨ (-(2 ^ 64) < j ∧ j < 2 ^ 64)
theorem CMul.ok {i j : Int} (h : CMul i j) : IntMulOk i j := by
  rcases h with ⟨h1, h2⟩ | ⟨h1, h2⟩
  · exact .of_left (intBits_le_64 h1 h2)
  · exact .of_right (intBits_le_64 h1 h2)
theorem two_pow_nn (k : Nat) : (0 : Int) ≤ 2 ^ k := by
  rw [two_pow_cast]
  exact Int.natCast_nonneg _

theorem op_add : OpR X (binaryOp .Add) (rI0 fun i j => .int (i + j)) := opI0 fun _ _ _ _ _ _ _ q => add_int q
theorem op_sub : OpR X (binaryOp .Sub) (rI0 fun i j => .int (i - j)) := opI0 fun _ _ _ _ _ _ _ q => sub_int q
theorem op_mul : OpR X (binaryOp .Mult) (rI CMul fun i j => .int (i * j)) := opI fun _ _ _ _ _ _ _ hc q => mul_int q hc.ok
/-- // by a positive divisor -/
theorem op_fdiv : OpR X (binaryOp .FloorDiv) (rI CDiv fun i j => .int (i / j)) := opI fun i j _ _ _ _ _ hc q => by
  have h1 : (0 : Int) < j := hc.1
  have h2 : j < 1073741824 := hc.2
  exact floordiv_int (by omega) (by rw [Int.fdiv_eq_ediv_of_nonneg i (by omega)]; exact q) (.inl (PyProof.noPylong_small (by omega)))
theorem op_fdivN : OpR X (binaryOp .FloorDiv) (rI CDivN fun i j => .int (i.fdiv j)) := opI fun _ _ _ _ _ _ _ hc q => floordiv_int hc.1 q (.inl (PyProof.noPylong_small hc.2))
/-- % by a positive divisor of any size -/
theorem op_mod : OpR X (binaryOp .Mod) (rI (fun _ j => 0 < j) fun i j => .int (i % j)) := opI fun i j _ _ _ _ _ hc q => by
  have h1 : (0 : Int) < j := hc
  exact mod_int' (by omega) (by rw [Int.fmod_eq_emod_of_nonneg i (by omega)]; exact q)
theorem op_modN : OpR X (binaryOp .Mod) (rI (fun _ j => j ≠ 0) fun i j => .int (i.fmod j)) := opI fun _ _ _ _ _ _ _ hc q => mod_int' hc q
theorem op_pow : OpR X (binaryOp .Pow) (rI CPow fun i j => .int (i ^ j.toNat)) := opI fun _ _ _ _ _ _ _ hc q => pow_int_small hc.1 hc.2.1 hc.2.2 q
theorem op_shl : OpR X (binaryOp .LShift) (rI CPow fun i j => .int (i * 2 ^ j.toNat)) := opI fun _ _ _ _ _ _ _ hc q => lshift_int_small hc.1 hc.2.1 hc.2.2 q
theorem op_shr : OpR X (binaryOp .RShift) (rI (fun _ j => 0 ≤ j) fun i j => .int (i / 2 ^ j.toNat)) := opI fun i j _ _ _ _ _ hc q =>
  rshift_int hc (by rw [Int.fdiv_eq_ediv_of_nonneg i (two_pow_nn _)]; exact q)
theorem op_and : OpR X (binaryOp .BitAnd) (rI0 fun i j => .int (Builtin.bitAnd i j)) := opI0 fun _ _ _ _ _ _ _ q => and_int q
theorem op_or : OpR X (binaryOp .BitOr) (rI0 fun i j => .int (Builtin.bitOr i j)) := opI0 fun _ _ _ _ _ _ _ q => or_int q
theorem op_xor : OpR X (binaryOp .BitXor) (rI0 fun i j => .int (Builtin.bitXor i j)) := opI0 fun _ _ _ _ _ _ _ q => xor_int q

theorem iop_add : OpR X (inplaceOp .Add) (rI0 fun i j => .int (i + j)) := opI0 fun _ _ _ _ _ _ _ q => iadd_int q
theorem iop_sub : OpR X (inplaceOp .Sub) (rI0 fun i j => .int (i - j)) := opI0 fun _ _ _ _ _ _ _ q => isub_int q
theorem iop_mul : OpR X (inplaceOp .Mult) (rI CMul fun i j => .int (i * j)) := opI fun _ _ _ _ _ _ _ hc q => imul_int q hc.ok
theorem iop_fdiv : OpR X (inplaceOp .FloorDiv) (rI CDiv fun i j => .int (i / j)) := opI fun i j _ _ _ _ _ hc q => by
  have h1 : (0 : Int) < j := hc.1
  have h2 : j < 1073741824 := hc.2
  exact ifloordiv_int (by omega) (by rw [Int.fdiv_eq_ediv_of_nonneg i (by omega)]; exact q) (.inl (PyProof.noPylong_small (by omega)))
theorem iop_mod : OpR X (inplaceOp .Mod) (rI (fun _ j => 0 < j) fun i j => .int (i % j)) := opI fun i j _ _ _ _ _ hc q => by
  have h1 : (0 : Int) < j := hc
  exact imod_int (by omega) (by rw [Int.fmod_eq_emod_of_nonneg i (by omega)]; exact q)
theorem iop_shl : OpR X (inplaceOp .LShift) (rI CPow fun i j => .int (i * 2 ^ j.toNat)) := opI fun _ _ _ _ _ _ _ hc q => ilshift_int_small hc.1 hc.2.1 hc.2.2 q
theorem iop_shr : OpR X (inplaceOp .RShift) (rI (fun _ j => 0 ≤ j) fun i j => .int (i / 2 ^ j.toNat)) := opI fun i j _ _ _ _ _ hc q =>
  irshift_int hc (by rw [Int.fdiv_eq_ediv_of_nonneg i (two_pow_nn _)]; exact q)
theorem iop_and : OpR X (inplaceOp .BitAnd) (rI0 fun i j => .int (Builtin.bitAnd i j)) := opI0 fun _ _ _ _ _ _ _ q => iand_int q
theorem iop_or : OpR X (inplaceOp .BitOr) (rI0 fun i j => .int (Builtin.bitOr i j)) := opI0 fun _ _ _ _ _ _ _ q => ior_int q
theorem iop_xor : OpR X (inplaceOp .BitXor) (rI0 fun i j => .int (Builtin.bitXor i j)) := opI0 fun _ _ _ _ _ _ _ q => ixor_int q

theorem unI {f : Value → Sem Value} {g : Int → Int}
    (rule : ∀ (i : Int) (t : Tok) (s : Shared) (Q : Value → Shared → Prop) (E : Value → Shared → Prop), Q (.int (g i) s.toks) { s with toks := s.toks + 1 } → wpAny (model X.prog X.w) X.A (f (.int i t)) Q E s) :
    UnR X f (rU fun i => .int (g i)) := by
  intro pins s σ H x v Q I rx h
  obtain ⟨i, rfl, q⟩ := h
  obtain ⟨t, rfl⟩ := rx
  exact rule i t s _ _ ⟨.int (g i), H, I.tok _, ⟨_, rfl⟩, q⟩
theorem un_neg : UnR X (unaryOp .USub) (rU fun i => .int (-i)) := unI fun _ _ _ _ _ q => neg_int q
theorem un_inv : UnR X (unaryOp .Invert) (rU fun i => .int (Builtin.bitNot i)) := unI fun _ _ _ _ _ q => invert_int q

/-! ### bools among ints: n += (a < b) -/
theorem op_add_ib : OpR X (binaryOp .Add) (fun x y H Q => ∃ i k, x = .int i ∧ y = .bl k ∧ Q (.int (i + b2i k)) H) := by
  intro pins s σ H x y v u Q I rx ry h
  obtain ⟨i, k, rfl, rfl, q⟩ := h
  obtain ⟨t, rfl⟩ := rx
  cases ry
  exact add_int_bool ⟨.int (i + b2i k), H, I.tok _, ⟨_, rfl⟩, q⟩
end

/-! ### comparisons -/
/-- the scalars that == tells apart as data does -/
def scal : V → V → Bool
  | .non, .non => true | .non, .int _ => true | .int _, .non => true | .non, .bl _ => true | .bl _, .non => true | .non, .str _ => true | .str _, .non => true
  | .int _, .int _ => true | .bl _, .bl _ => true | .str _, .str _ => true | .byt _, .byt _ => true
  | .int _, .str _ => true | .str _, .int _ => true | .bl _, .str _ => true | .str _, .bl _ => true
  | _, _ => false
def rEq : R2 := fun x y H Q => scal x y = true ∧ Q (.bl (decide (x = y))) H
def rNe : R2 := fun x y H Q => scal x y = true ∧ Q (.bl (!decide (x = y))) H

theorem dec_int {i j : Int} : decide (V.int i = V.int j) = (i == j) := by
  rw [Bool.eq_iff_iff]
  simp
theorem dec_bl {i j : Bool} : decide (V.bl i = V.bl j) = (i == j) := by
  rw [Bool.eq_iff_iff]
  simp
theorem dec_str {i j : Str} : decide (V.str i = V.str j) = (i == j) := by
  rw [Bool.eq_iff_iff]
  simp
theorem dec_byt {i j : Array UInt8} : decide (V.byt i = V.byt j) = (i.toList == j.toList) := by
  rw [Bool.eq_iff_iff]
  cases i
  cases j
  simp

section
variable {X : Cx} {a b c : Expr} {ta tb tc : TE} {pos : Pos}
theorem fin_bl {pins : List (Addr × Obj)} {σ : St} {H : Hp} {s : Shared} {Q : VK} {k k' : Bool} (I : Inv X pins σ H s) (q : Q (.bl k) H) (e : k = k') : EP X pins σ Q (.bool k') s := by
  subst e
  exact ⟨.bl k, H, I, rfl, q⟩
theorem op_eq : OpR X (compareOp .Eq) rEq := by
  intro pins s σ H x y v u Q I rx ry h
  obtain ⟨hs, q⟩ := h
  cases x with
  | non =>
    cases rx
    cases y with
    | non => cases ry; exact PySem.EqNone.eq_none_none (fin_bl I q (by simp))
    | bl j => cases ry; exact PySem.EqNone.eq_none_bool (fin_bl I q (by simp))
    | int j => obtain ⟨t', rfl⟩ := ry; exact PySem.EqNone.eq_none_int (fin_bl I q (by simp))
    | str j => obtain ⟨t', rfl⟩ := ry; exact PySem.EqNone.eq_none_str (fin_bl I q (by simp))
    | _ => exact absurd (show false = true from hs) Bool.false_ne_true
  | bl i =>
    cases rx
    cases y with
    | non => cases ry; exact PySem.EqNone.eq_bool_none (fin_bl I q (by simp))
    | bl j => cases ry; exact eq_bool (fin_bl I q dec_bl)
    | str j => obtain ⟨t', rfl⟩ := ry; exact PySem.EqMixed.eq_bool_str (fin_bl I q (by simp))
    | _ => exact absurd (show false = true from hs) Bool.false_ne_true
  | int i =>
    obtain ⟨t, rfl⟩ := rx
    cases y with
    | non => cases ry; exact PySem.EqNone.eq_int_none (fin_bl I q (by simp))
    | int j => obtain ⟨t', rfl⟩ := ry; exact eq_int (fin_bl I q dec_int)
    | str j => obtain ⟨t', rfl⟩ := ry; exact PySem.EqMixed.eq_int_str (fin_bl I q (by simp))
    | _ => exact absurd (show false = true from hs) Bool.false_ne_true
  | str i =>
    obtain ⟨t, rfl⟩ := rx
    cases y with
    | non => cases ry; exact PySem.EqNone.eq_str_none (fin_bl I q (by simp))
    | bl j => cases ry; exact PySem.EqMixed.eq_str_bool (fin_bl I q (by simp))
    | int j => obtain ⟨t', rfl⟩ := ry; exact PySem.EqMixed.eq_str_int (fin_bl I q (by simp))
    | str j => obtain ⟨t', rfl⟩ := ry; exact eq_str (fin_bl I q dec_str)
    | _ => exact absurd (show false = true from hs) Bool.false_ne_true
  | byt i =>
    obtain ⟨t, rfl⟩ := rx
    cases y with
    | byt j => obtain ⟨t', rfl⟩ := ry; exact PySem.W.eq_bytes (fin_bl I q dec_byt)
    | _ => exact absurd (show false = true from hs) Bool.false_ne_true
  | _ => cases y <;> exact absurd (show false = true from hs) Bool.false_ne_true
theorem op_ne : OpR X (compareOp .NotEq) rNe := by
  intro pins s σ H x y v u Q I rx ry h
  obtain ⟨hs, q⟩ := h
  cases x with
  | non =>
    cases rx
    cases y with
    | non => cases ry; exact PySem.EqNone.ne_none_none (fin_bl I q (by simp))
    | bl j => cases ry; exact PySem.EqNone.ne_none_bool (fin_bl I q (by simp))
    | int j => obtain ⟨t', rfl⟩ := ry; exact PySem.EqNone.ne_none_int (fin_bl I q (by simp))
    | str j => obtain ⟨t', rfl⟩ := ry; exact PySem.EqNone.ne_none_str (fin_bl I q (by simp))
    | _ => exact absurd (show false = true from hs) Bool.false_ne_true
  | bl i =>
    cases rx
    cases y with
    | non => cases ry; exact PySem.EqNone.ne_bool_none (fin_bl I q (by simp))
    | bl j => cases ry; exact ne_bool (fin_bl I q (congrArg not dec_bl))
    | str j => obtain ⟨t', rfl⟩ := ry; exact PySem.EqMixed.ne_bool_str (fin_bl I q (by simp))
    | _ => exact absurd (show false = true from hs) Bool.false_ne_true
  | int i =>
    obtain ⟨t, rfl⟩ := rx
    cases y with
    | non => cases ry; exact PySem.EqNone.ne_int_none (fin_bl I q (by simp))
    | int j => obtain ⟨t', rfl⟩ := ry; exact ne_int (fin_bl I q (congrArg not dec_int))
    | str j => obtain ⟨t', rfl⟩ := ry; exact PySem.EqMixed.ne_int_str (fin_bl I q (by simp))
    | _ => exact absurd (show false = true from hs) Bool.false_ne_true
  | str i =>
    obtain ⟨t, rfl⟩ := rx
    cases y with
    | non => cases ry; exact PySem.EqNone.ne_str_none (fin_bl I q (by simp))
    | bl j => cases ry; exact PySem.EqMixed.ne_str_bool (fin_bl I q (by simp))
    | int j => obtain ⟨t', rfl⟩ := ry; exact PySem.EqMixed.ne_str_int (fin_bl I q (by simp))
    | str j => obtain ⟨t', rfl⟩ := ry; exact ne_str (fin_bl I q (congrArg not dec_str))
    | _ => exact absurd (show false = true from hs) Bool.false_ne_true
  | byt i =>
    obtain ⟨t, rfl⟩ := rx
    cases y with
    | byt j => obtain ⟨t', rfl⟩ := ry; exact PySem.W.ne_bytes (fin_bl I q (congrArg not dec_byt))
    | _ => exact absurd (show false = true from hs) Bool.false_ne_true
  | _ => cases y <;> exact absurd (show false = true from hs) Bool.false_ne_true

theorem op_lt : OpR X (compareOp .Lt) (rI0 fun i j => .bl (decide (i < j))) := opB0 fun _ _ _ _ _ _ _ q => lt_int q
theorem op_le : OpR X (compareOp .LtE) (rI0 fun i j => .bl (decide (i ≤ j))) := opB0 fun _ _ _ _ _ _ _ q => le_int q
theorem op_gt : OpR X (compareOp .Gt) (rI0 fun i j => .bl (decide (j < i))) := opB0 fun _ _ _ _ _ _ _ q => gt_int q
theorem op_ge : OpR X (compareOp .GtE) (rI0 fun i j => .bl (decide (j ≤ i))) := opB0 fun _ _ _ _ _ _ _ q => ge_int q
theorem op_lt_str : OpR X (compareOp .Lt) (fun x y H Q => ∃ i j, x = .str i ∧ y = .str j ∧ Q (.bl (decide (i.cps.toList < j.cps.toList))) H) := by
  intro pins s σ H x y v u Q I rx ry h
  obtain ⟨i, j, rfl, rfl, q⟩ := h
  obtain ⟨t, rfl⟩ := rx
  obtain ⟨t', rfl⟩ := ry
  exact lt_str (fin_bl I q rfl)
/-- the one string within the other -/
theorem op_in_str : OpR X (compareOp .In) (fun x y H Q => ∃ i j, x = .str i ∧ y = .str j ∧ Q (.bl (!(Builtin.Str.occurrences j i 0 j.length 1).isEmpty)) H) := by
  intro pins s σ H x y v u Q I rx ry h
  obtain ⟨i, j, rfl, rfl, q⟩ := h
  obtain ⟨t, rfl⟩ := rx
  obtain ⟨t', rfl⟩ := ry
  exact in_str (fin_bl I q rfl)

/-- is None, is not None: the right side a value none -/
theorem op_isN : OpR X (compareOp .Is) (fun x y H Q => y = .non ∧ Q (.bl (decide (x = .non))) H) := by
  intro pins s σ H x y v u Q I rx ry h
  obtain ⟨rfl, q⟩ := h
  cases ry
  refine is_none_gen (fin_bl I q ?_)
  cases x <;> first
    | (cases rx; rfl)
    | (obtain ⟨t, rfl⟩ := rx; rfl)
theorem op_notN : OpR X (compareOp .IsNot) (fun x y H Q => y = .non ∧ Q (.bl (!decide (x = .non))) H) := by
  intro pins s σ H x y v u Q I rx ry h
  obtain ⟨rfl, q⟩ := h
  cases ry
  refine isnot_none_gen (fin_bl I q ?_)
  cases x <;> first
    | (cases rx; rfl)
    | (obtain ⟨t, rfl⟩ := rx; rfl)

theorem op_notin_str : OpR X (compareOp .NotIn) (fun x y H Q => ∃ i j, x = .str i ∧ y = .str j ∧ Q (.bl (!(!(Builtin.Str.occurrences j i 0 j.length 1).isEmpty))) H) := by
  intro pins s σ H x y v u Q I rx ry h
  obtain ⟨i, j, rfl, rfl, q⟩ := h
  obtain ⟨t, rfl⟩ := rx
  obtain ⟨t', rfl⟩ := ry
  exact notIn_str (fin_bl I q rfl)
/-- is, is not of two objects that are tracked lists or instances -/
def isObj : HO → Bool
  | .lst _ => true
  | .ins _ _ _ => true
  | _ => false
theorem obj_there {pins : List (Addr × Obj)} {s : Shared} {σ : St} {H : Hp} {a : Addr} {o : HO} (I : Inv X pins σ H s) (h : H a = some o) (p : isObj o = true) : ∃ ob, s.heap.get? a = some ob ∧ ob.cls ≠ .type "tuple" := by
  cases o with
  | lst xs =>
    obtain ⟨_, its, n, _, e⟩ : xs.length ≤ sizeLine ∧ ∃ (its : List Value) (n : Nat), Vals xs its ∧ s.heap.get? a = some { cls := .type "list", data := .seq its.toArray n } := I.hok a _ h
    exact ⟨_, e, (by show Value.type "list" ≠ .type "tuple"; decide +kernel)⟩
  | ins C dx fs =>
    have x := I.hok a _ h
    obtain ⟨_, _, _, e, _⟩ := x
    exact ⟨_, e, (by show Value.ref C ≠ .type "tuple"; exact fun z => by cases z)⟩
  | _ => exact absurd (show false = true from p) Bool.false_ne_true
theorem op_is_ref : OpR X (compareOp .Is) (fun x y H Q => ∃ a b oa ob, x = .ref a ∧ y = .ref b ∧ H a = some oa ∧ isObj oa = true ∧ H b = some ob ∧ isObj ob = true ∧ Q (.bl (decide (a = b))) H) := by
  intro pins s σ H x y v u Q I rx ry h
  obtain ⟨a, b, oa, ob, rfl, rfl, ha, pa, hb, pb, q⟩ := h
  cases rx
  cases ry
  obtain ⟨o1, e1, n1⟩ := obj_there I ha pa
  obtain ⟨o2, e2, _⟩ := obj_there I hb pb
  by_cases z : a = b
  · subst z
    exact wpAny_is_ref_self (fin_bl I q (by simp))
  · exact wpAny_is_ref_other z e1 e2 n1 (fin_bl I q (by simp [z]))
theorem op_isnot_ref : OpR X (compareOp .IsNot) (fun x y H Q => ∃ a b oa ob, x = .ref a ∧ y = .ref b ∧ H a = some oa ∧ isObj oa = true ∧ H b = some ob ∧ isObj ob = true ∧ Q (.bl (!decide (a = b))) H) := by
  intro pins s σ H x y v u Q I rx ry h
  obtain ⟨a, b, oa, ob, rfl, rfl, ha, pa, hb, pb, q⟩ := h
  cases rx
  cases ry
  obtain ⟨o1, e1, n1⟩ := obj_there I ha pa
  obtain ⟨o2, e2, _⟩ := obj_there I hb pb
  by_cases z : a = b
  · subst z
    exact wpAny_isNot_ref_self (fin_bl I q (by simp))
  · exact wpAny_isNot_ref_other z e1 e2 n1 (fin_bl I q (by simp [z]))

/-- two rules for one operation: by cases -/
theorem OpR.or {f : Value → Value → Sem Value} {r r' : R2} (h : OpR X f r) (h' : OpR X f r') : OpR X f (fun x y H Q => r x y H Q ∨ r' x y H Q) := by
  intro pins s σ H x y v u Q I rx ry q
  rcases q with q | q
  · exact h pins s σ H x y v u Q I rx ry q
  · exact h' pins s σ H x y v u Q I rx ry q

theorem nomark (b : Expr) {op : CmpOp} (h : op ≠ .In := by decide) (h2 : op ≠ .NotIn := by decide) : behindInMarks op b = false := by
  have e1 : (op == CmpOp.In) = false := by cases op <;> first | rfl | exact absurd rfl h
  have e2 : (op == CmpOp.NotIn) = false := by cases op <;> first | rfl | exact absurd rfl h2
  cases b <;> simp [behindInMarks, e1, e2]
/-- a comparison as a value; hm: nomark b, or (for in, not in) by with_unfolding_all rfl -/
theorem pe_cmpR {op : CmpOp} {r : R2} (ho : OpR X (compareOp op) r) (ha : PE X a ta) (hb : PE X b tb) (hm : behindInMarks op b = false) : PE X (.Compare a [op] [b] pos) (tOp r ta tb) := by
  intro pins s σ H Q I h
  exact wpAny_Compare1 (binT ha hb I h fun v u s2 x y H2 I2 rx ry q => ho pins s2 σ H2 x y v u Q I2 rx ry q) hm
/-- a reading of a value as a test -/
def tTest (t : TE) : TT := fun σ H Q => t σ H fun x H' => ∃ k, x = .bl k ∧ Q k H'
theorem pt_cmpR {op : CmpOp} {r : R2} (ho : OpR X (compareOp op) r) (ha : PE X a ta) (hb : PE X b tb) (hm : behindInMarks op b = false) : PT X (.Compare a [op] [b] pos) (tTest (tOp r ta tb)) := by
  intro pins s σ H Q I h
  refine wpAny_isTrue_Compare1 (thn (ha pins s σ H _ I h) fun v s1 ⟨x, H1, I1, r1, q1⟩ => thn (hb pins s1 σ H1 _ I1 q1) fun u s2 ⟨y, H2, I2, r2, q2⟩ =>
    thn (ho pins s2 σ H2 x y v u _ I2 r1 r2 q2) fun c s3 ⟨z, H3, I3, r3, k, e, q3⟩ => ?_) hm
  subst e
  cases r3
  exact wpAny_truthy_bool ⟨H3, I3, q3⟩
/-- a op1 b op2 c -/
def tChain (r r' : R2) (ta tb tc : TE) : TE := fun σ H Q => ta σ H fun x H1 => tb σ H1 fun y H2 => r x y H2 fun z H3 => ∃ k, z = .bl k ∧
  (if k = true then tc σ H3 fun w' H4 => r' y w' H4 Q else Q (.bl false) H3)
theorem pe_chain {op op' : CmpOp} {r r' : R2} (ho : OpR X (compareOp op) r) (ho' : OpR X (compareOp op') r') (ha : PE X a ta) (hb : PE X b tb) (hc : PE X c tc)
    (hm : lastMarks [op, op'] [b, c] = false := by with_unfolding_all rfl) : PE X (.Compare a [op, op'] [b, c] pos) (tChain r r' ta tb tc) := by
  intro pins s σ H Q I h
  refine Compare_chain (thn (ha pins s σ H _ I h) fun v s1 ⟨x, H1, I1, r1, q1⟩ => chain_link (thn (hb pins s1 σ H1 _ I1 q1) fun u s2 ⟨y, H2, I2, r2, q2⟩ =>
    thn (ho pins s2 σ H2 x y v u _ I2 r1 r2 q2) fun d s3 ⟨z, H3, I3, r3, k, e, q3⟩ => ?_)) hm
  subst e
  cases r3
  refine wpAny_truthy_bool ?_
  cases k with
  | false => exact ite_ff ⟨.bl false, H3, I3, rfl, q3⟩
  | true => exact ite_tt (chain_last (thn (hc pins s3 σ H3 _ I3 q3) fun w' s4 ⟨z', H4, I4, r4, q4⟩ => ho' pins s4 σ H4 y z' u w' Q I4 r2 r4 q4))
theorem pt_chain {op op' : CmpOp} {r r' : R2} (ho : OpR X (compareOp op) r) (ho' : OpR X (compareOp op') r') (ha : PE X a ta) (hb : PE X b tb) (hc : PE X c tc)
    (hm : lastMarks [op, op'] [b, c] = false := by with_unfolding_all rfl) : PT X (.Compare a [op, op'] [b, c] pos) (tTest (tChain r r' ta tb tc)) := by
  intro pins s σ H Q I h
  refine isTrue_chain (thn (ha pins s σ H _ I h) fun v s1 ⟨x, H1, I1, r1, q1⟩ => test_link (thn (hb pins s1 σ H1 _ I1 q1) fun u s2 ⟨y, H2, I2, r2, q2⟩ =>
    thn (ho pins s2 σ H2 x y v u _ I2 r1 r2 q2) fun d s3 ⟨z, H3, I3, r3, k, e, q3⟩ => ?_)) hm
  subst e
  cases r3
  refine wpAny_truthy_bool ?_
  cases k with
  | false =>
    obtain ⟨k', e', q'⟩ := q3
    cases e'
    exact ite_ff ⟨H3, I3, q'⟩
  | true =>
    refine ite_tt (test_last (thn (hc pins s3 σ H3 _ I3 q3) fun w' s4 ⟨z', H4, I4, r4, q4⟩ => thn (ho' pins s4 σ H4 y z' u w' _ I4 r2 r4 q4) fun d' s5 ⟨z2, H5, I5, r5, k2, e2, q5⟩ => ?_))
    subst e2
    cases r5
    exact wpAny_truthy_bool ⟨H5, I5, q5⟩

/-! ### truth -/
/-- a value's truth by the abstract heap -/
def TruV (K : PySem.W.Frag) (x : V) (H : Hp) (k : Bool) : Prop :=
  match x with
  | .non => k = false
  | .bl b => k = b
  | .int i => k = (i != 0)
  | .str y => y.length ≤ sizeLine ∧ k = ((y.length : Int) != 0)
  | .byt y => y.size ≤ sizeLine ∧ k = ((y.size : Int) != 0)
  | .ref p => (∃ xs, SqL K H p xs ∧ k = !xs.isEmpty) ∨ (∃ xs, SqT K H p xs ∧ k = !xs.isEmpty) ∨ ∃ kvs, H p = some (.dK kvs) ∧ k = !kvs.isEmpty
  | _ => False
theorem isEmpty_kv {κ : Type} {kvs : List (κ × V)} {vs : List (κ × Value)} (r : KV kvs vs) : (!vs.isEmpty) = !kvs.isEmpty := by
  cases r <;> rfl
theorem isEmpty_of {xs : List V} {its : List Value} (r : Vals xs its) : (!its.toArray.isEmpty) = !xs.isEmpty := by
  cases r <;> simp
theorem line63 : (sizeLine : Nat) < 2 ^ 63 := by rw [sizeLine_eq]; decide
theorem tru_ok : TruR X (fun x H Q => ∃ k, TruV X.K x H k ∧ Q k H) := by
  intro pins s σ H x v Q I rx h
  obtain ⟨k, e, q⟩ := h
  have hl := line63
  have hs : sizeLine = 16777216 := sizeLine_eq
  cases x with
  | non =>
    cases rx
    have e' : k = false := e
    subst e'
    exact truthy_none ⟨H, I, q⟩
  | bl b =>
    cases rx
    have e' : k = b := e
    subst e'
    exact wpAny_truthy_bool ⟨H, I, q⟩
  | int i =>
    obtain ⟨t, rfl⟩ := rx
    have e' : k = (i != 0) := e
    subst e'
    exact PySem.P.truthy_int ⟨H, I, q⟩
  | str y =>
    obtain ⟨t, rfl⟩ := rx
    obtain ⟨hy, e'⟩ : y.length ≤ sizeLine ∧ k = ((y.length : Int) != 0) := e
    subst e'
    exact PySem.P.truthy_str (by omega) ⟨H, I.tok _, q⟩
  | byt y =>
    obtain ⟨t, rfl⟩ := rx
    obtain ⟨hy, e'⟩ : y.size ≤ sizeLine ∧ k = ((y.size : Int) != 0) := e
    subst e'
    exact PySem.W.truthy_bytes (by omega) ⟨H, I.tok _, q⟩
  | ref p =>
    cases rx
    have e' : (∃ xs, SqL X.K H p xs ∧ k = !xs.isEmpty) ∨ (∃ xs, SqT X.K H p xs ∧ k = !xs.isEmpty) ∨ ∃ kvs, H p = some (.dK kvs) ∧ k = !kvs.isEmpty := e
    rcases e' with ⟨xs, hx, e'⟩ | ⟨xs, hx, e'⟩ | ⟨kvs, hx, e'⟩
    · subst e'
      obtain ⟨its, r, pl, hz⟩ := I.list hx
      have hlen := r.length
      exact wpAny_truthy_list pl.isList (by simp only [List.size_toArray]; omega) ⟨H, I.tok _, by rw [isEmpty_of r]; exact q⟩
    · subst e'
      obtain ⟨its, r, pl, hz⟩ := I.tuple hx
      have hlen := r.length
      exact truthy_tuple pl (by simp only [List.size_toArray]; omega) ⟨H, I.tok _, by rw [isEmpty_of r]; exact q⟩
    · subst e'
      obtain ⟨hz, hS, vs, r, m⟩ : kvs.length ≤ sizeLine ∧ (p == sysModules) = false ∧ ∃ vs, KV kvs vs ∧ s.heap.DictOf (mixKind X.prog X.w) p vs := I.hok p _ hx
      have hlen : kvs.length = vs.length := Paired.length r
      exact wpAny_truthy_dict hS m (by omega) ⟨H, I.tok _, by rw [isEmpty_kv r]; exact q⟩
  | _ => exact (show False from e).elim
/-- any expression whose test is its value's truth (a name, a call, a subscript, a field ..: he by fun _ => rfl) -/
theorem pt_truth (ha : PE X a ta) (he : ∀ whole, isTrue a X.env whole = (do let v ← whole; standAt a.pos; holding [v] (truthy v))) :
    PT X a (fun σ H Q => ta σ H fun x H' => ∃ k, TruV X.K x H' k ∧ Q k H') := by
  intro pins s σ H Q I h
  exact isTrue_plain (thn (ha pins s σ H _ I h) fun v s1 ⟨x, H1, I1, r1, q1⟩ => tru_ok pins s1 σ H1 x v Q I1 r1 q1) (he _)

/-! ### strs and bytes -/
theorem pe_byt {x : List UInt8} {k : Nat} : PE X (.Constant (.bytes x) k pos) (fun _ H Q => Q (.byt x.toArray) H) := fun _ _ _ H _ I h => PySem.W.Constant_bytes ⟨.byt x.toArray, H, I.tok _, ⟨_, rfl⟩, h⟩
theorem op_add_str : OpR X (binaryOp .Add) (fun x y H Q => ∃ i j, x = .str i ∧ y = .str j ∧ i.length + j.length ≤ sizeLine ∧ Q (.str (i ++ j)) H) := by
  intro pins s σ H x y v u Q I rx ry h
  obtain ⟨i, j, rfl, rfl, hz, q⟩ := h
  obtain ⟨t, rfl⟩ := rx
  obtain ⟨t', rfl⟩ := ry
  exact add_str (fun t' tk => ⟨.str (i ++ j), H, I.tok _, ⟨_, rfl⟩, q⟩) hz
theorem iop_add_str : OpR X (inplaceOp .Add) (fun x y H Q => ∃ i j, x = .str i ∧ y = .str j ∧ i.length + j.length ≤ sizeLine ∧ Q (.str (i ++ j)) H) := by
  intro pins s σ H x y v u Q I rx ry h
  obtain ⟨i, j, rfl, rfl, hz, q⟩ := h
  obtain ⟨t, rfl⟩ := rx
  obtain ⟨t', rfl⟩ := ry
  exact iadd_str (fun t' tk => ⟨.str (i ++ j), H, I.tok _, ⟨_, rfl⟩, q⟩) hz
theorem op_add_byt : OpR X (binaryOp .Add) (fun x y H Q => ∃ i j, x = .byt i ∧ y = .byt j ∧ i.size + j.size ≤ 16777216 ∧ Q (.byt (i ++ j)) H) := by
  intro pins s σ H x y v u Q I rx ry h
  obtain ⟨i, j, rfl, rfl, hz, q⟩ := h
  obtain ⟨t, rfl⟩ := rx
  obtain ⟨t', rfl⟩ := ry
  exact PySem.W.KBy.add_bytes hz (fun t' tk => ⟨.byt (i ++ j), H, I.tok _, ⟨_, rfl⟩, q⟩)

def PlainIxT (b : Expr) : Prop := ∀ o i, subscripted b false o i = operate [o, i] (getItem o i)
/-- s[i], 0 ≤ i < len -/
theorem pe_item_str (ha : PE X a ta) (hb : PE X b tb) (hs : PlainIxT b) :
    PE X (.Subscript a b pos) (tOp (fun x y H Q => ∃ z i c, x = .str z ∧ y = .int i ∧ 0 ≤ i ∧ i < 2 ^ 63 ∧ i < z.length ∧ z.cps[i.toNat]? = some c ∧ Q (.str ⟨#[c]⟩) H) ta tb) := by
  intro pins s σ H Q I h
  refine Subscript_ (binT ha hb I h fun v u s2 x y H2 I2 rx ry q => ?_)
  obtain ⟨z, i, c, rfl, rfl, h0, h63, h1, hc, q⟩ := q
  obtain ⟨t, rfl⟩ := rx
  obtain ⟨t', rfl⟩ := ry
  have e : seqIndex? i z.length = some i.toNat := PySem.StrLaws.seqIndex_nonneg h0 h1
  exact tail_any (typeIs_str s2 z t) slot_str_getitem.lookup (getItem_str (c := c) (by
    have e1 : decide (i < -(2 ^ 63 : Int)) = false := decide_eq_false (by omega)
    have e2 : decide (i ≥ 2 ^ 63) = false := decide_eq_false (by omega)
    rw [e1, e2] <;> rfl) (by rw [e]; exact hc) ⟨.str ⟨#[c]⟩, H2, I2.tok _, ⟨_, rfl⟩, q⟩) (hs _ _)
/-- b[i], 0 ≤ i < len -/
theorem pe_item_byt (ha : PE X a ta) (hb : PE X b tb) (hs : PlainIxT b) :
    PE X (.Subscript a b pos) (tOp (fun x y H Q => ∃ (z : List UInt8) (i : Int), x = .byt z.toArray ∧ y = .int i ∧ z.length ≤ sizeLine ∧ 0 ≤ i ∧ i < z.length ∧ Q (.int ((z.getD i.toNat 0).toNat : Nat)) H) ta tb) := by
  intro pins s σ H Q I h
  refine Subscript_ (binT ha hb I h fun v u s2 x y H2 I2 rx ry q => ?_)
  obtain ⟨z, i, rfl, rfl, hz, h0, h1, q⟩ := q
  obtain ⟨t, rfl⟩ := rx
  obtain ⟨t', rfl⟩ := ry
  have hl : sizeLine = 16777216 := sizeLine_eq
  exact tail_any (PySem.W.typeIs_bytes s2 z.toArray t) PySem.W.FB.slot_bytes_getitem.lookup (PySem.W.getItem_bytes (by omega) h0 h1 ⟨.int ((z.getD i.toNat 0).toNat : Nat), H2, I2.tok _, ⟨_, rfl⟩, q⟩) (hs _ _)

/-! ### scalar builtins, by CallR -/
theorem vals1 {x : V} {us : List Value} (r : Vals [x] us) : ∃ u, us = [u] ∧ RelV x u := by
  cases r with
  | cons r1 r2 => cases r2; exact ⟨_, rfl, r1⟩
theorem vals2 {x y : V} {us : List Value} (r : Vals [x, y] us) : ∃ u w', us = [u, w'] ∧ RelV x u ∧ RelV y w' := by
  cases r with
  | cons r1 r2 =>
    cases r2 with
    | cons r3 r4 => cases r4; exact ⟨_, _, rfl, r1, r3⟩
theorem call_abs : CallR X (.builtin "abs") (fun xs H Q => ∃ i, xs = [.int i] ∧ Q (.int (if i < 0 then -i else i)) H) := by
  intro pins s σ H xs us Q I r h
  obtain ⟨i, rfl, q⟩ := h
  obtain ⟨u, rfl, t, rfl⟩ := vals1 r
  exact call_abs_int fun u tk => ⟨.int (if i < 0 then -i else i), H, I.tok _, ⟨_, rfl⟩, q⟩
theorem call_max2 (hc : X.calm = true) : CallR X (.builtin "max") (fun xs H Q => ∃ i j, xs = [.int i, .int j] ∧ Q (.int (if j > i then j else i)) H) := by
  intro pins s σ H xs us Q I r h
  obtain ⟨i, j, rfl, q⟩ := h
  obtain ⟨u, w', rfl, ⟨t, rfl⟩, ⟨t', rfl⟩⟩ := vals2 r
  refine max_two_ints (I.ok.hd hc) fun h' tk k => ⟨_, H, I.kept k, ?_, q⟩
  by_cases hj : j > i
  · rw [if_pos hj, if_pos hj]; exact ⟨_, rfl⟩
  · rw [if_neg hj, if_neg hj]; exact ⟨_, rfl⟩
theorem call_min2 (hc : X.calm = true) : CallR X (.builtin "min") (fun xs H Q => ∃ i j, xs = [.int i, .int j] ∧ Q (.int (if j < i then j else i)) H) := by
  intro pins s σ H xs us Q I r h
  obtain ⟨i, j, rfl, q⟩ := h
  obtain ⟨u, w', rfl, ⟨t, rfl⟩, ⟨t', rfl⟩⟩ := vals2 r
  refine min_two_ints (I.ok.hd hc) fun h' tk k => ⟨_, H, I.kept k, ?_, q⟩
  by_cases hj : j < i
  · rw [if_pos hj, if_pos hj]; exact ⟨_, rfl⟩
  · rw [if_neg hj, if_neg hj]; exact ⟨_, rfl⟩
theorem call_int1 : CallR X (.type "int") (fun xs H Q => (∃ i, xs = [.int i] ∧ Q (.int i) H) ∨ ∃ k, xs = [.bl k] ∧ Q (.int (if k then 1 else 0)) H) := by
  intro pins s σ H xs us Q I r h
  rcases h with ⟨i, rfl, q⟩ | ⟨k, rfl, q⟩
  · obtain ⟨u, rfl, t, rfl⟩ := vals1 r
    exact call_int_int ⟨.int i, H, I, ⟨_, rfl⟩, q⟩
  · obtain ⟨u, rfl, r1⟩ := vals1 r
    cases r1
    exact call_int_bool ⟨.int (if k then 1 else 0), H, I.tok _, ⟨_, rfl⟩, q⟩
theorem call_bool1 : CallR X (.type "bool") (fun xs H Q => (∃ i, xs = [.int i] ∧ Q (.bl (i != 0)) H) ∨ ∃ k, xs = [.bl k] ∧ Q (.bl k) H) := by
  intro pins s σ H xs us Q I r h
  rcases h with ⟨i, rfl, q⟩ | ⟨k, rfl, q⟩
  · obtain ⟨u, rfl, t, rfl⟩ := vals1 r
    exact call_bool_int ⟨.bl (i != 0), H, I, rfl, q⟩
  · obtain ⟨u, rfl, r1⟩ := vals1 r
    cases r1
    exact call_bool_bool ⟨.bl k, H, I, rfl, q⟩
theorem call_str_int : CallR X (.type "str") (fun xs H Q => ∃ i, xs = [.int i] ∧ i.natAbs.log2 < 1920 ∧ Q (.str (toString i)) H) := by
  intro pins s σ H xs us Q I r h
  obtain ⟨i, rfl, hz, q⟩ := h
  obtain ⟨u, rfl, t, rfl⟩ := vals1 r
  exact PySem.P.str_of_int hz ⟨.str _, H, I.tok _, ⟨_, rfl⟩, q⟩
theorem call_ord : CallR X (.builtin "ord") (fun xs H Q => ∃ x, xs = [.str x] ∧ x.length = 1 ∧ Q (.int (x.cps.getD 0 0 : Nat)) H) := by
  intro pins s σ H xs us Q I r h
  obtain ⟨x, rfl, hz, q⟩ := h
  obtain ⟨u, rfl, t, rfl⟩ := vals1 r
  exact ord_of_one hz ⟨.int _, H, I.tok _, ⟨_, rfl⟩, q⟩
theorem call_chr : CallR X (.builtin "chr") (fun xs H Q => ∃ i, xs = [.int i] ∧ 0 ≤ i ∧ i ≤ 1114111 ∧ Q (.str ⟨#[i.toNat]⟩) H) := by
  intro pins s σ H xs us Q I r h
  obtain ⟨i, rfl, h0, h1, q⟩ := h
  obtain ⟨u, rfl, t, rfl⟩ := vals1 r
  exact chr_of_range h0 h1 ⟨.str _, H, I.tok _, ⟨_, rfl⟩, q⟩
/-- len of a str, a bytes, a list, a tuple -/
def LenV (K : PySem.W.Frag) (x : V) (H : Hp) (n : Nat) : Prop :=
  match x with
  | .str y => y.length ≤ sizeLine ∧ n = y.length
  | .byt y => y.size ≤ sizeLine ∧ n = y.size
  | .ref p => (∃ xs, SqL K H p xs ∧ n = xs.length) ∨ ∃ xs, SqT K H p xs ∧ n = xs.length
  | _ => False
theorem call_len : CallR X (.builtin "len") (fun xs H Q => ∃ x n, xs = [x] ∧ LenV X.K x H n ∧ Q (.int n) H) := by
  intro pins s σ H xs us Q I r h
  obtain ⟨x, n, rfl, e, q⟩ := h
  obtain ⟨u, rfl, rx⟩ := vals1 r
  have hl := line63
  have hs : sizeLine = 16777216 := sizeLine_eq
  cases x with
  | str y =>
    obtain ⟨t, rfl⟩ := rx
    obtain ⟨hy, e'⟩ : y.length ≤ sizeLine ∧ n = y.length := e
    subst e'
    exact len_str (by omega) ⟨.int _, H, I.tok _, ⟨_, rfl⟩, q⟩
  | byt y =>
    obtain ⟨t, rfl⟩ := rx
    obtain ⟨hy, e'⟩ : y.size ≤ sizeLine ∧ n = y.size := e
    subst e'
    exact PySem.W.len_bytes (by omega) ⟨.int _, H, I.tok _, ⟨_, rfl⟩, q⟩
  | ref p =>
    cases rx
    have e' : (∃ xs, SqL X.K H p xs ∧ n = xs.length) ∨ ∃ xs, SqT X.K H p xs ∧ n = xs.length := e
    rcases e' with ⟨xs, hx, e'⟩ | ⟨xs, hx, e'⟩
    · subst e'
      obtain ⟨its, r', pl, hz⟩ := I.list hx
      have hlen := r'.length
      exact Calls.call_len_list pl.isList (by simp only [List.size_toArray]; omega) ⟨.int xs.length, H, I.tok _, ⟨_, by simp only [List.size_toArray]; rw [hlen]⟩, q⟩
    · subst e'
      obtain ⟨its, r', pl, hz⟩ := I.tuple hx
      have hlen := r'.length
      exact len_tuple pl (by simp only [List.size_toArray]; omega) ⟨.int xs.length, H, I.tok _, ⟨_, by simp only [List.size_toArray]; rw [hlen]⟩, q⟩
  | _ => exact (show False from e).elim
/-- divmod: a new tuple -/
theorem call_divmod : CallR X (.builtin "divmod") (fun xs H Q => ∃ i j, xs = [.int i, .int j] ∧ CDiv i j ∧ ∀ p, H p = none → Q (.ref p) (upd H p (.tup [.int (i / j), .int (i % j)]))) := by
  intro pins s σ H xs us Q I r h
  obtain ⟨i, j, rfl, ⟨h1, h2⟩, q⟩ := h
  obtain ⟨u, w', rfl, ⟨t, rfl⟩, ⟨t', rfl⟩⟩ := vals2 r
  refine divmod_int (by omega) ?_ (.inl (PyProof.noPylong_small (by omega)))
  rw [Int.fdiv_eq_ediv_of_nonneg i (by omega), Int.fmod_eq_emod_of_nonneg i (by omega)]
  have hn : H s.heap.objs.size = none := I.hok.fresh (Nat.le_refl _)
  refine ⟨.ref s.heap.objs.size, _, ?_, rfl, q _ hn⟩
  refine I.laid (fun b o e => Heap.get?_push_of_some _ e) (Nat.le_refl _) ⟨by simp only [List.length_cons, List.length_nil]; rw [sizeLine_eq]; decide, [.int (i / j) s.toks, .int (i % j) (s.toks + 1)], .cons ⟨_, rfl⟩ (.cons ⟨_, rfl⟩ .nil), ?_⟩
  exact ⟨_, Heap.get?_push_size s.heap rfl, rfl, 0, rfl⟩
end
end L2

namespace L2
open PySem PySem.Spec PyProof.Rows

/-! ### an instance, its attributes a map -/
structure ObjM (h : Heap) (x dx C : Addr) (mA : Str → Option Value) : Prop where
  obj : h.get? x = some (PySem.W.instObj C dx)
  ns : h.Ns1 dx mA
  ne : dx ≠ x

theorem lookIn_ns {h : Heap} {dx : Addr} {mA : Str → Option Value} (n : h.Ns1 dx mA) : ∃ od, h.get? dx = some od ∧ ∀ name, PySem.W.lookIn name od = some (mA name) := by
  obtain ⟨o, es, ep, ho, hd, hk, _, hm⟩ := n
  refine ⟨o, ho, fun name => ?_⟩
  have e := hm name
  unfold nsFind findBy at e
  rw [← Array.find?_toList] at e
  unfold PySem.W.lookIn
  rw [hd]
  dsimp only
  split
  · rename_i y q
    rw [q] at e
    exact congrArg some e
  · rename_i q
    rw [q] at e
    have a : es.toList.any (·.refKey) = false := by
      rw [List.any_eq_false]
      intro y hy
      obtain ⟨z, t, hkey⟩ := hk y (Array.mem_toList_iff.mp hy)
      simp [DictEntry.refKey, hkey]
    have a' : ¬ es.toList.any (·.refKey) = true := by rw [a]; exact Bool.false_ne_true
    rw [if_neg a']
    exact congrArg some e

theorem ObjM.look {h : Heap} {x dx C : Addr} {mA : Str → Option Value} (I : ObjM h x dx C mA) : ∃ od, PySem.W.InstAt h x (PySem.W.instObj C dx) C (some od) ∧ ∀ name, PySem.W.lookIn name od = some (mA name) :=
  let ⟨od, ho, hl⟩ := lookIn_ns I.ns
  ⟨od, ⟨I.obj, rfl, rfl, ho⟩, hl⟩

section
variable {prog : Program} {w : World} {A : Around} {E : Value → Shared → Prop} {s : Shared} {K : PySem.W.Frag} {x dx C f : Addr} {mA : Str → Option Value} {name : Str} {v : Value}

theorem get_map {expr : Bool} {Q : Value → Shared → Prop} (X : K.In s.heap) (I : ObjM s.heap x dx C mA) (hg : PySem.W.plainGet K C name = true) (hh : PySem.W.hasDictIn K C = true)
    (ha : PySem.W.findIn K (.ref C) name = some none) (hv : mA name = some v) (hv' : PySem.W.handedIn v = true) (h : Q v { s with toks := s.toks + 1 }) :
    wpAny (model prog w) A (getAttr (.ref x) name expr) Q E s := by
  obtain ⟨od, J, hl⟩ := I.look
  exact PySem.W.get_value X J (PySem.W.plainGet_of hg).1 (PySem.W.findObj_own hh ha rfl (by rw [hl, hv])) hv' h

theorem get_const {expr : Bool} {a : Value} {Q : Value → Shared → Prop} (X : K.In s.heap) (I : ObjM s.heap x dx C mA) (hg : PySem.W.plainGet K C name = true) (hh : PySem.W.hasDictIn K C = true)
    (ha : PySem.W.findIn K (.ref C) name = some (some a)) (hn : PySem.W.specialIn K a "__get__" = some none) (hc : PySem.W.copiedNames.contains name = false) (hv : mA name = none) (hv' : PySem.W.handedIn a = true)
    (h : Q a { s with toks := s.toks + 1 }) : wpAny (model prog w) A (getAttr (.ref x) name expr) Q E s := by
  obtain ⟨od, J, hl⟩ := I.look
  exact PySem.W.get_value X J (PySem.W.plainGet_of hg).1 (PySem.W.findObj_cls hh ha hn hv' hc (by rw [hl, hv])) hv' h

theorem get_meth {pl : Sem Bool} {Q : Value × List Value → Shared → Prop} (X : K.In s.heap) (I : ObjM s.heap x dx C mA) (hg : PySem.W.plainGet K C name = true)
    (hf : PySem.W.findIn K (.ref C) name = some (some (.ref f))) (ht : PySem.W.isFn K (.ref f) = true) (hv : mA name = none) (h : Q (.ref f, [.ref x]) s) :
    wpAny (model prog w) A (getMethod (.ref x) name pl) Q E s := by
  obtain ⟨od, J, hl⟩ := I.look
  exact PySem.W.method_fn X J (PySem.W.plainGet_of hg).1 (PySem.W.plainGet_of hg).2 hf (beq_iff_eq.mp ht) (by show (PySem.W.lookIn name od).map (·.isSome) = some false; rw [hl, hv]; rfl) h

theorem set_map {ns : List Str} {Q : Unit → Shared → Prop} (X : K.In s.heap) (I : ObjM s.heap x dx C mA)
    (hs : PySem.W.findIn K (.ref C) "__setattr__" = some (some (.builtin "object.__setattr__"))) (hp : PySem.W.plainOver K C = true) (ht : PySem.W.takerIn K C name = some none) (hh : PySem.W.hasDictIn K C = true)
    (hw : PySem.Within mA ns) (hsz : ns.length ≤ sizeLine)
    (h : ∀ h', ObjM h' x dx C (fun y => if y = name then some v else mA y) → Heap.SameBut dx s.heap h' → Q () { s with heap := h', toks := s.toks + 2 }) :
    wpAny (model prog w) A (setAttr (.ref x) name v) Q E s := by
  obtain ⟨od, J, hl⟩ := I.look
  refine PySem.W.set_plain X J hs (PySem.W.osa_open (s := { s with toks := s.toks + 1 }) (r := none) X J hp ht fun b => ?_)
  obtain ⟨cd, hc, hd'⟩ := PySem.W.any_some hh
  have hx : s.heap.get? x = some ⟨.ref C, some dx, .plain, #[]⟩ := I.obj
  refine wpAny_bind (wpAny_pure (wpAny_bind (wpAny_bind (wpAny_loadPart hx (wpAny_bind (PySem.W.Looks.here (s := { s with toks := s.toks + 1 }) (PySem.W.looks_clsIn X hc) ?_))))))
  rw [hd']
  refine wpAny_pure (a := some dx) (wpAny_bind (wpAny_pure (wpAny_bind ?_)))
  refine wpAny_nsSet1 (s := { s with toks := s.toks + 1 }) I.ns fun h' hn2 hs2 => ?_
  obtain ⟨oD, esD, epD, hoD, hdD, hcD⟩ := hn2.count (PySem.Within.cons name v hw)
  refine wpAny_bind (wpAny_lookBehind hoD (by rw [hdD]; exact pastItsLine_dict (Nat.le_trans hcD (by rw [List.length_cons]; omega))) ?_)
  exact wpAny_pure (h _ ⟨(hs2.2 _ (Ne.symm I.ne)).trans I.obj, hn2, I.ne⟩ hs2)

/-- C(..): the dict at the heap's end, the instance behind it; then its __init__ -/
theorem make_map {R : Result → Shared → Prop} {vs : List Value} {kw : List (Str × Value)} (X : K.In s.heap) (hm : PySem.W.makesIn K C = true)
    (hi : PySem.W.findIn K (.ref C) "__init__" = some (some (.ref f))) (hf : PySem.W.typeIn K (.ref f) = some (.type "function"))
    (h : codeAny (model prog w) (A.under (.builtin "type.__call__" ⟨.ref C :: vs, kw⟩)) (.call (.ref f) ⟨.ref (s.heap.objs.size + 1) :: vs, kw⟩) (PySem.W.InitBack (s.heap.objs.size + 1) R)
      { s with heap := (s.heap.push PySem.W.emptyDict).push (PySem.W.instObj C s.heap.objs.size) }) :
    codeAny (model prog w) A (.call (.ref C) ⟨vs, kw⟩) R s := by
  obtain ⟨hh, g, d, t, os⟩ := s
  exact PySem.W.make_core (PySem.W.makes_of X hm) (PySem.W.looks_findIn X hi) (fun self => PySem.W.bind_fn X self hf) (.inl rfl) h
/-- C() where there is no __init__ but object's -/
theorem make_map0 {R : Result → Shared → Prop} (X : K.In s.heap) (hm : PySem.W.makesIn K C = true)
    (hi : PySem.W.findIn K (.ref C) "__init__" = some (some (.builtin "object.__init__")))
    (hb : ∀ self, PySem.W.Looks (model prog w) s.heap (bindSpecial (.builtin "object.__init__") self) (.builtin "object.__init__", [self]))
    (h : codeAny (model prog w) (A.under (.builtin "type.__call__" ⟨[.ref C], []⟩)) (.call (.builtin "object.__init__") ⟨[.ref (s.heap.objs.size + 1)], []⟩) (PySem.W.InitBack (s.heap.objs.size + 1) R)
      { s with heap := (s.heap.push PySem.W.emptyDict).push (PySem.W.instObj C s.heap.objs.size) }) :
    codeAny (model prog w) A (.call (.ref C) ⟨[], []⟩) R s := by
  obtain ⟨hh, g, d, t, os⟩ := s
  exact PySem.W.make_core (PySem.W.makes_of X hm) (PySem.W.looks_findIn X hi) hb (.inr ⟨rfl, rfl⟩) h
end

/-! ### the attributes as a list of pairs -/
def putF (f : Str) (v : V) : List (Str × V) → List (Str × V)
  | [] => [(f, v)]
  | (g, x) :: r => if g = f then (g, v) :: r else (g, x) :: putF f v r
theorem lookup_putF (f g : Str) (v : V) : ∀ fs : List (Str × V), (putF f v fs).lookup g = if g = f then some v else fs.lookup g
  | [] => by
    show List.lookup g [(f, v)] = _
    by_cases h : g = f
    · have hb : (g == f) = true := beq_iff_eq.mpr h
      simp only [List.lookup, hb, if_pos h]
    · have hb : (g == f) = false := beq_eq_false_iff_ne.mpr h
      simp only [List.lookup, hb, if_neg h]
  | (k, x) :: r => by
    have ih := lookup_putF f g v r
    rw [show putF f v ((k, x) :: r) = (if k = f then (k, v) :: r else (k, x) :: putF f v r) from rfl]
    by_cases hk : k = f
    · rw [if_pos hk]
      by_cases h : g = k
      · have hb : (g == k) = true := beq_iff_eq.mpr h
        simp only [List.lookup, hb, if_pos (h.trans hk)]
      · have hb : (g == k) = false := beq_eq_false_iff_ne.mpr h
        simp only [List.lookup, hb, if_neg (fun e : g = f => h (e.trans hk.symm))]
    · rw [if_neg hk]
      by_cases h : g = k
      · have hb : (g == k) = true := beq_iff_eq.mpr h
        simp only [List.lookup, hb, if_neg (fun e : g = f => hk (h.symm.trans e))]
      · have hb : (g == k) = false := beq_eq_false_iff_ne.mpr h
        simp only [List.lookup, hb]
        exact ih
theorem keys_putF (f : Str) (v : V) : ∀ fs : List (Str × V), f ∈ (putF f v fs).map (·.1) ∧ ∀ g, g ∈ fs.map (·.1) → g ∈ (putF f v fs).map (·.1)
  | [] => ⟨by simp [putF], fun g h => by simp at h⟩
  | (k, x) :: r => by
    obtain ⟨i1, i2⟩ := keys_putF f v r
    rw [show putF f v ((k, x) :: r) = (if k = f then (k, v) :: r else (k, x) :: putF f v r) from rfl]
    by_cases hk : k = f
    · rw [if_pos hk]
      subst hk
      exact ⟨by simp, fun g h => by simpa using h⟩
    · rw [if_neg hk]
      refine ⟨?_, fun g h => ?_⟩
      · rw [List.map_cons]
        exact List.mem_cons_of_mem _ i1
      · rw [List.map_cons] at h ⊢
        rcases List.mem_cons.mp h with e | e
        · exact List.mem_cons.mpr (.inl e)
        · exact List.mem_cons_of_mem _ (i2 g e)
theorem length_putF (f : Str) (v : V) : ∀ fs : List (Str × V), (putF f v fs).length ≤ fs.length + 1
  | [] => by simp [putF]
  | (k, x) :: r => by
    have ih := length_putF f v r
    rw [show putF f v ((k, x) :: r) = (if k = f then (k, v) :: r else (k, x) :: putF f v r) from rfl]
    by_cases hk : k = f
    · rw [if_pos hk, List.length_cons, List.length_cons]; omega
    · rw [if_neg hk, List.length_cons, List.length_cons]; omega

theorem RelO.some_of {v : V} {o : Option Value} (r : RelO (some v) o) : ∃ u, o = some u ∧ RelV v u := by
  cases o with
  | none => exact (show False from r).elim
  | some u => exact ⟨u, rfl, r⟩
theorem RelO.none_of {o : Option Value} (r : RelO none o) : o = none := by
  cases o with
  | none => rfl
  | some u => exact (show False from r).elim
theorem handed_of {v : V} {u : Value} (r : RelV v u) : PySem.W.handedIn u = true := by
  cases v with
  | non => cases (show u = Value.none from r); rfl
  | bl b => cases (show u = Value.bool b from r); rfl
  | int i => obtain ⟨t, e⟩ := (show ∃ t, u = Value.int i t from r); cases e; rfl
  | str x => obtain ⟨t, e⟩ := (show ∃ t, u = Value.str x t from r); cases e; rfl
  | byt b => obtain ⟨t, e⟩ := (show ∃ t, u = Value.bytes b t from r); cases e; rfl
  | flt b => obtain ⟨t, e⟩ := (show ∃ t, u = Value.float b t from r); cases e; rfl
  | ref a => cases (show u = Value.ref a from r); rfl
  | ty n => cases (show u = Value.type n from r); rfl

section
variable {P : Program} {w : World} {H H' : Hp} {h h' : Heap} {a C dx : Addr} {fs fs' : List (Str × V)}
theorem ins_get (hok : HOk P w H h) (e : H a = some (.ins C dx fs)) : ∃ mA, ObjM h a dx C mA ∧ (∀ f, RelO (fs.lookup f) (mA f)) ∧ PySem.Within mA (fs.map (·.1)) ∧ fs.length ≤ 1000 ∧ H dx = some (.own a) := by
  obtain ⟨d, z, ne, ob, mA, n, r, q⟩ := (show ObjOk P w H h a (.ins C dx fs) from hok a _ e)
  exact ⟨mA, ⟨ob, n, ne⟩, r, q, z, d⟩
end

/-! ### what of the text a class must have -/
structure Cls (K : PySem.W.Frag) (C : Addr) : Prop where
  pg : PySem.W.plainGet K C Str.empty = true
  hd : PySem.W.hasDictIn K C = true
  po : PySem.W.plainOver K C = true
  sa : PySem.W.findIn K (.ref C) "__setattr__" = some (some (.builtin "object.__setattr__"))
theorem Cls.get {K : PySem.W.Frag} {C : Addr} (c : Cls K C) (f : Str) : PySem.W.plainGet K C f = true := c.pg
/-- no class of it has the name -/
def NoAttr (K : PySem.W.Frag) (C : Addr) (f : Str) : Prop := PySem.W.findIn K (.ref C) f = some none
theorem NoAttr.taker {K : PySem.W.Frag} {C : Addr} {f : Str} (n : NoAttr K C f) : PySem.W.takerIn K C f = some none := by
  unfold PySem.W.takerIn
  rw [show PySem.W.findIn K (.ref C) f = some none from n]
  rfl
/-- a constant of the class -/
structure Con (K : PySem.W.Frag) (C : Addr) (f : Str) (v : V) (u : Value) : Prop where
  at_ : PySem.W.findIn K (.ref C) f = some (some u)
  rel : RelV v u
  get : PySem.W.specialIn K u "__get__" = some none
  cp : PySem.W.copiedNames.contains f = false
/-- a method: a plain def of the class or of one above it -/
structure Meth (K : PySem.W.Frag) (C : Addr) (m : Str) (f : Addr) : Prop where
  at_ : PySem.W.findIn K (.ref C) m = some (some (.ref f))
  fn : PySem.W.isFn K (.ref f) = true
  kp : PySem.W.keepIn K (.ref f) = true

section
variable {X : Cx} {pins : List (Addr × Obj)} {σ : St} {H : Hp} {s : Shared} {a C dx : Addr} {fs : List (Str × V)} {f : Str} {v : V} {A : Around} {E : Value → Shared → Prop}

theorem getattr_ok {b : Bool} {Q : Value → Shared → Prop} (I : Inv X pins σ H s) (e : H a = some (.ins C dx fs)) (c : Cls X.K C) (n : NoAttr X.K C f) (l : fs.lookup f = some v)
    (h : ∀ u s', Inv X pins σ H s' → RelV v u → Q u s') : wpAny (model X.prog X.w) A (getAttr (.ref a) f b) Q E s := by
  obtain ⟨mA, O, r, _, _, _⟩ := ins_get I.hok e
  obtain ⟨u, hu, ru⟩ := RelO.some_of (v := v) (o := mA f) (by rw [← l]; exact r f)
  exact get_map I.kIn O (c.get f) c.hd n hu (handed_of ru) (h u _ (I.tok _) ru)

theorem getcon_ok {b : Bool} {u : Value} {Q : Value → Shared → Prop} (I : Inv X pins σ H s) (e : H a = some (.ins C dx fs)) (c : Cls X.K C) (k : Con X.K C f v u) (l : fs.lookup f = none)
    (h : ∀ s', Inv X pins σ H s' → Q u s') : wpAny (model X.prog X.w) A (getAttr (.ref a) f b) Q E s := by
  obtain ⟨mA, O, r, _, _, _⟩ := ins_get I.hok e
  have hn : mA f = none := RelO.none_of (by rw [← l]; exact r f)
  exact get_const I.kIn O (c.get f) c.hd k.at_ k.get k.cp hn (handed_of k.rel) (h _ (I.tok _))

theorem getmeth_ok {m : Str} {g : Addr} {pl : Sem Bool} {Q : Value × List Value → Shared → Prop} (I : Inv X pins σ H s) (e : H a = some (.ins C dx fs)) (c : Cls X.K C) (k : Meth X.K C m g) (l : fs.lookup m = none)
    (h : Q (.ref g, [.ref a]) s) : wpAny (model X.prog X.w) A (getMethod (.ref a) m pl) Q E s := by
  obtain ⟨mA, O, r, _, _, _⟩ := ins_get I.hok e
  have hn : mA m = none := RelO.none_of (by rw [← l]; exact r m)
  exact get_meth I.kIn O (c.get m) k.at_ k.fn hn h

theorem setattr_ok {y : V} {u : Value} {Q : Unit → Shared → Prop} (I : Inv X pins σ H s) (e : H a = some (.ins C dx fs)) (c : Cls X.K C) (n : NoAttr X.K C f) (hl : fs.length < 1000) (ry : RelV y u)
    (h : ∀ s', Inv X pins σ (upd H a (.ins C dx (putF f y fs))) s' → Q () s') : wpAny (model X.prog X.w) A (setAttr (.ref a) f u) Q E s := by
  obtain ⟨mA, O, r, wi, _, ho⟩ := ins_get I.hok e
  have hz : (fs.map (·.1)).length ≤ sizeLine := by rw [List.length_map, sizeLine_eq]; omega
  refine set_map I.kIn O c.sa c.po n.taker c.hd wi hz fun h' O' sb => h _ ?_
  have hd : ∃ o, h'.get? dx = some o := let ⟨o, _, _, e', _⟩ := O'.ns; ⟨o, e'⟩
  refine I.write (x := a) (e := dx) (by rw [e]; exact True.intro) (.inr ho) (fun b q hb z => (sb.2 b hb).trans z) hd ?_
  refine ⟨by rw [upd_ne O.ne]; exact ho, ?_, O.ne, O'.obj, _, O'.ns, fun g => ?_, fun g hg => ?_⟩
  · have := length_putF f y fs; omega
  · show RelO ((putF f y fs).lookup g) (if g = f then some u else mA g)
    rw [lookup_putF]
    by_cases q : g = f
    · rw [if_pos q, if_pos q]; exact ry
    · rw [if_neg q, if_neg q]; exact r g
  · by_cases q : g = f
    · rw [q]; exact (keys_putF f y fs).1
    · refine (keys_putF f y fs).2 g (wi g fun z => hg ?_)
      show (if g = f then some u else mA g) = none
      rw [if_neg q]; exact z

/-- a new instance, tracked, without attributes -/
theorem Inv.made (I : Inv X pins σ H s) : Inv X pins σ (upd (upd H s.heap.objs.size (.own (s.heap.objs.size + 1))) (s.heap.objs.size + 1) (.ins C s.heap.objs.size []))
    { s with heap := (s.heap.push PySem.W.emptyDict).push (PySem.W.instObj C s.heap.objs.size) } := by
  have e1 : (s.heap.push PySem.W.emptyDict).get? s.heap.objs.size = some PySem.W.emptyDict := Heap.get?_push_size s.heap rfl
  have e2 : ((s.heap.push PySem.W.emptyDict).push (PySem.W.instObj C s.heap.objs.size)).get? (s.heap.objs.size + 1) = some (PySem.W.instObj C s.heap.objs.size) := by
    have := Heap.get?_push_size (s.heap.push PySem.W.emptyDict) (o := PySem.W.instObj C s.heap.objs.size) rfl
    rwa [Heap.size_push] at this
  have e3 : (s.heap.push PySem.W.emptyDict).Ns s.heap.objs.size (fun _ => none) := ⟨PySem.W.emptyDict, #[], _, e1, rfl, (fun e he => absurd he (by simp)), fun _ => rfl⟩
  have I1 := I.laid (a := s.heap.objs.size) (o := .own (s.heap.objs.size + 1)) (h' := s.heap.push PySem.W.emptyDict) (t' := s.toks) (fun b u q => Heap.get?_push_of_some _ q) (Nat.le_refl _) ⟨_, e1⟩
  refine I1.laid (a := s.heap.objs.size + 1) (o := .ins C s.heap.objs.size []) (t' := s.toks) (fun b u q => Heap.get?_push_of_some _ q) (Nat.le_of_eq (Heap.size_push _ _)) ?_
  have ne : s.heap.objs.size ≠ s.heap.objs.size + 1 := Nat.ne_of_lt (Nat.lt_succ_self _)
  refine ⟨by rw [upd_ne ne, upd_same], Nat.zero_le _, ne, e2, fun _ => none, (Heap.Ns1.of_empty e3).at fun o q => Heap.get?_push_of_some _ q, fun _ => True.intro, fun y hy => absurd rfl hy⟩

/-- e.f where nothing but the object is asked: through attributeBase (super) and the last hold -/
theorem attr_of {prog : Program} {w : World} {env : Env} {e : Expr} {f : Str} {pos : Pos} {s : Shared} {Q : Value → Shared → Prop} (hb : attributeBase e f env (eval e env) = eval e env)
    (h : wpAny (model prog w) A (eval e env) (fun o s₁ => wpAny (model prog w) A (getAttr o f true) Q E s₁) E s) : wpAny (model prog w) A (eval (.Attribute e f pos) env) Q E s :=
  Attribute_any_ h (by rw [arm_eval_Attribute, hb])
end

/-! ### readings and rules -/
/-- e.f, an attribute of the instance -/
def tFld (K : PySem.W.Frag) (ta : TE) (f : Str) : TE := fun σ H Q => ta σ H fun x H1 => ∃ a C dx fs v, x = .ref a ∧ H1 a = some (.ins C dx fs) ∧ Cls K C ∧ NoAttr K C f ∧ fs.lookup f = some v ∧ Q v H1
/-- e.f, a constant of the class -/
def tCon (K : PySem.W.Frag) (ta : TE) (f : Str) : TE := fun σ H Q => ta σ H fun x H1 => ∃ a C dx fs v u, x = .ref a ∧ H1 a = some (.ins C dx fs) ∧ Cls K C ∧ Con K C f v u ∧ fs.lookup f = none ∧ Q v H1
/-- e.f = value -/
def sFld (K : PySem.W.Frag) (ta tv : TE) (f : Str) : TS := fun D σ H => tv σ H fun y H1 => ta σ H1 fun x H2 => ∃ a C dx fs, x = .ref a ∧ H2 a = some (.ins C dx fs) ∧ Cls K C ∧ NoAttr K C f ∧ fs.length < 1000 ∧
  D.nx σ (upd H2 a (.ins C dx (putF f y fs)))
/-- an augmented operator on two values -/
def InOp (X : Cx) (op : Operator) (rd : V → V → Hp → VK → Prop) : Prop :=
  ∀ (pins : List (Addr × Obj)) (s : Shared) (σ : St) (H : Hp) (x y : V) (u v : Value) (Q : VK), Inv X pins σ H s → RelV x u → RelV y v → rd x y H Q → wpAny (model X.prog X.w) X.A (inplaceOp op u v) (EP X pins σ Q) X.xe s
/-- e.f op= value -/
def sFldAug (K : PySem.W.Frag) (ta tv : TE) (rd : V → V → Hp → VK → Prop) (f : Str) : TS := fun D σ H => ta σ H fun x H1 => ∃ a C dx fs v, x = .ref a ∧ H1 a = some (.ins C dx fs) ∧ Cls K C ∧ NoAttr K C f ∧ fs.lookup f = some v ∧
  tv σ H1 fun y H2 => rd v y H2 fun z H3 => ∃ dx' fs', H3 a = some (.ins C dx' fs') ∧ fs'.length < 1000 ∧ D.nx σ (upd H3 a (.ins C dx' (putF f z fs')))

section
variable {X : Cx} {o e value : Expr} {f : Str} {pos pos' tpos : Pos} {ta tv : TE}
theorem pe_fld (he : PE X e ta) (hb : attributeBase e f X.env (eval e X.env) = eval e X.env) : PE X (.Attribute e f pos) (tFld X.K ta f) := by
  intro pins s σ H Q I h
  refine attr_of hb (thn (he pins s σ H _ I h) fun u s1 ⟨x, H1, I1, rx, a, C, dx, fs, v, ex, ea, c, n, l, q⟩ => ?_)
  subst ex
  obtain rfl : u = Value.ref a := rx
  exact getattr_ok I1 ea c n l fun u' s2 I2 ru => ⟨v, H1, I2, ru, q⟩
theorem pe_con (he : PE X e ta) (hb : attributeBase e f X.env (eval e X.env) = eval e X.env) : PE X (.Attribute e f pos) (tCon X.K ta f) := by
  intro pins s σ H Q I h
  refine attr_of hb (thn (he pins s σ H _ I h) fun u s1 ⟨x, H1, I1, rx, a, C, dx, fs, v, u0, ex, ea, c, k, l, q⟩ => ?_)
  subst ex
  obtain rfl : u = Value.ref a := rx
  exact getcon_ok I1 ea c k l fun s2 I2 => ⟨v, H1, I2, k.rel, q⟩
theorem ps_fld (ha : PE X o ta) (hv : PE X value tv) (hs : swapsWith value (some (.Attribute o f pos')) pos.line X.env = pure false) : PS X (.Assign [.Attribute o f pos'] value pos) (sFld X.K ta tv f) := by
  intro pins s σ H D I h
  refine plainObj_wpAny_Assign_Attribute (thn (hv pins s σ H _ I h) fun u s1 ⟨y, H1, I1, ry, q⟩ => thn (ha pins s1 σ H1 _ I1 q) fun ov s2 ⟨x, H2, I2, rx, a, C, dx, fs, ex, ea, c, n, l, q2⟩ => ?_) hs
  subst ex
  obtain rfl : ov = Value.ref a := rx
  exact setattr_ok I2 ea c n l ry fun s3 I3 => ⟨σ, _, I3, q2⟩
theorem ps_fldaug {op : Operator} {rd : V → V → Hp → VK → Prop} (ha : PE X o ta) (hv : PE X value tv) (hop : InOp X op rd) : PS X (.AugAssign (.Attribute o f tpos) op value pos) (sFldAug X.K ta tv rd f) := by
  intro pins s σ H D I h
  refine wpAny_AugAssign_AttributeAny (thn (ha pins s σ H _ I h) fun ov s1 ⟨x, H1, I1, rx, a, C, dx, fs, v, ex, ea, c, n, l, q⟩ => ?_)
  subst ex
  obtain rfl : ov = Value.ref a := rx
  refine getattr_ok I1 ea c n l fun u s2 I2 ru => thn (hv pins s2 σ H1 _ I2 q) fun w3 s3 ⟨y, H2, I3, ry, q3⟩ => thn (hop pins s3 σ H2 v y u w3 _ I3 ru ry q3) fun w4 s4 ⟨z, H3, I4, rz, dx', fs', ea', l', q4⟩ => ?_
  exact setattr_ok I4 ea' c n l' rz fun s5 I5 => ⟨σ, _, I5, q4⟩
def rAdd : V → V → Hp → VK → Prop := fun x y H Q => ∃ i j, x = .int i ∧ y = .int j ∧ Q (.int (i + j)) H
def rSub : V → V → Hp → VK → Prop := fun x y H Q => ∃ i j, x = .int i ∧ y = .int j ∧ Q (.int (i - j)) H
theorem in_add : InOp X .Add rAdd := by
  rintro pins s σ H x y u v Q I rx ry ⟨i, j, rfl, rfl, q⟩
  obtain ⟨t, rfl⟩ := (show ∃ t, u = Value.int i t from rx)
  obtain ⟨t', rfl⟩ := (show ∃ t', v = Value.int j t' from ry)
  exact PyProof.Rows.iadd_int ⟨.int (i + j), H, I.tok _, ⟨_, rfl⟩, q⟩
theorem in_sub : InOp X .Sub rSub := by
  rintro pins s σ H x y u v Q I rx ry ⟨i, j, rfl, rfl, q⟩
  obtain ⟨t, rfl⟩ := (show ∃ t, u = Value.int i t from rx)
  obtain ⟨t', rfl⟩ := (show ∃ t', v = Value.int j t' from ry)
  exact PyProof.Rows.isub_int ⟨.int (i - j), H, I.tok _, ⟨_, rfl⟩, q⟩

/-- what is between an instance and its method: the tree of a method call -/
theorem methcall_of {pl : Sem Bool} {m : Str} {apos : Pos} {args : List Expr} {pins : List (Addr × Obj)} {s : Shared} {σ : St} {H : Hp} {Q : Value → Shared → Prop} {te : TE} (he : PE X e te) (I : Inv X pins σ H s)
    (h : te σ H fun x H1 => ∃ a C dx fs g, x = .ref a ∧ H1 a = some (.ins C dx fs) ∧ Cls X.K C ∧ Meth X.K C m g ∧ fs.lookup m = none ∧
      ∀ s1, Inv X pins σ H1 s1 → wpAny (model X.prog X.w) X.A (callWith pos (.ref g) [.ref a] (backTo pos (starEach args X.env)) (backToKw pos (keywordEach [] X.env))) Q X.xe s1)
    (ht : eval (.Call (.Attribute e m apos) args [] pos) X.env = (do
      let ov ← eval e X.env
      standAt apos.atName
      let (f, first) ← holding [ov] (getMethod ov m pl)
      callWith pos f first (backTo pos (starEach args X.env)) (backToKw pos (keywordEach [] X.env)))) :
    wpAny (model X.prog X.w) X.A (eval (.Call (.Attribute e m apos) args [] pos) X.env) Q X.xe s := by
  refine PySem.W.methodCall_KW (pl := pl) (thn (he pins s σ H _ I h) fun u s1 ⟨x, H1, I1, rx, a, C, dx, fs, g, ex, ea, c, k, l, q⟩ => ?_) ht
  subst ex
  obtain rfl : u = Value.ref a := rx
  exact getmeth_ok I1 ea c k l (q s1 I1)
end

/-! ### isinstance -/
section
variable {X : Cx} {pins : List (Addr × Obj)} {σ : St} {H : Hp} {s : Shared} {A : Around} {E : Value → Shared → Prop} {Q : Value → Shared → Prop} {c : Value} {b : Bool}
/-- the type of a value, as the fragment's deciders take it; for an instance its class -/
inductive TyOf (K : PySem.W.Frag) (H : Hp) : V → Value → Prop where
  | non : TyOf K H .non (.type "NoneType")
  | bl (x : Bool) : TyOf K H (.bl x) (.type "bool")
  | int (i : Int) : TyOf K H (.int i) (.type "int")
  | str (x : Str) : TyOf K H (.str x) (.type "str")
  | flt (x : UInt64) : TyOf K H (.flt x) (.type "float")
  | lst {a : Addr} {xs : List V} (e : H a = some (.lst xs)) : TyOf K H (.ref a) (.type "list")
  | frz {a : Addr} {o : Obj} {xs : List V} (e : H a = some (.frz o (.lst xs))) : TyOf K H (.ref a) (.type "list")
  | tup {a : Addr} {xs : List V} (e : H a = some (.tup xs)) : TyOf K H (.ref a) (.type "tuple")
  | dK {a : Addr} {kvs : List (Key × V)} (e : H a = some (.dK kvs)) : TyOf K H (.ref a) (.type "dict")
  | dT {a : Addr} {kvs : List (List Key × V)} (e : H a = some (.dT kvs)) : TyOf K H (.ref a) (.type "dict")
  | ins {a C dx : Addr} {fs : List (Str × V)} (e : H a = some (.ins C dx fs)) (cl : Cls K C) (ha : PySem.W.findIn K (.ref C) "__class__" = some (some (.builtin "object.__class__")))
      (hn : PySem.W.specialIn K (.builtin "object.__class__") "__get__" = some (some (.builtin "getset_descriptor.__get__"))) (htk : PySem.W.takesIn K (.builtin "object.__class__") = some true)
      (hm : PySem.W.mroIn K C (.type "object") = some true) : TyOf K H (.ref a) (.ref C)
/-- isinstance(x, c) for one class c, a built-in or an own one: kitOne's answer -/
theorem isinst_ok {x : V} {u t : Value} (I : Inv X pins σ H s) (rx : RelV x u) (ty : TyOf X.K H x t) (e : PySem.W.kitOne X.K t c = some b) (h : ∀ tk, Q (.bool b) { s with toks := tk }) :
    wpAny (model X.prog X.w) A (call (.builtin "isinstance") [u, c]) Q E s := by
  cases ty with
  | non => cases (show u = Value.none from rx); exact PySem.W.kia_one PySem.W.kitx_none I.kIn True.intro e (fun z => nomatch z) h
  | bl y => cases (show u = Value.bool y from rx); exact PySem.W.kia_one PySem.W.kitx_bool I.kIn True.intro e (fun z => nomatch z) h
  | int i => obtain ⟨t, q⟩ := (show ∃ t, u = Value.int i t from rx); cases q; exact PySem.W.kia_one PySem.W.kitx_int I.kIn True.intro e (fun z => nomatch z) h
  | str y => obtain ⟨t, q⟩ := (show ∃ t, u = Value.str y t from rx); cases q; exact PySem.W.kia_one PySem.W.kitx_str I.kIn True.intro e (fun z => nomatch z) h
  | flt y => obtain ⟨t, q⟩ := (show ∃ t, u = Value.float y t from rx); cases q; exact PySem.W.kia_one PySem.W.kitx_float I.kIn True.intro e (fun z => nomatch z) h
  | @lst a xs ea =>
    cases (show u = Value.ref a from rx)
    obtain ⟨_, _, n, _, h1⟩ := (show ObjOk X.prog X.w H s.heap a (.lst xs) from I.hok a _ ea)
    exact PySem.W.kia_one PySem.W.kitx_list I.kIn ⟨_, h1, rfl⟩ e (fun z => nomatch z) h
  | @frz a ob xs ea =>
    cases (show u = Value.ref a from rx)
    obtain ⟨_, _, _, n, _, h1⟩ := (show ObjOk X.prog X.w H s.heap a (.frz ob (.lst xs)) from I.hok a _ ea)
    exact PySem.W.kia_one PySem.W.kitx_list I.kIn ⟨_, h1, rfl⟩ e (fun z => nomatch z) h
  | @tup a xs ea =>
    cases (show u = Value.ref a from rx)
    obtain ⟨_, _, _, p⟩ := (show ObjOk X.prog X.w H s.heap a (.tup xs) from I.hok a _ ea)
    obtain ⟨o, h1, h2, _⟩ := p
    exact PySem.W.kia_one PySem.W.kitx_tuple I.kIn ⟨o, h1, h2⟩ e (fun z => nomatch z) h
  | @dK a kvs ea =>
    cases (show u = Value.ref a from rx)
    obtain ⟨_, _, vs, _, p⟩ := (show ObjOk X.prog X.w H s.heap a (.dK kvs) from I.hok a _ ea)
    obtain ⟨o, es, ep, h1, h2, _⟩ := p
    exact PySem.W.kia_one PySem.W.kitx_dict I.kIn ⟨o, h1, h2.1⟩ e (fun z => nomatch z) h
  | @dT a kvs ea =>
    cases (show u = Value.ref a from rx)
    obtain ⟨_, _, xs, _, o, es, ep, h1, h2, _⟩ := (show ObjOk X.prog X.w H s.heap a (.dT kvs) from I.hok a _ ea)
    exact PySem.W.kia_one PySem.W.kitx_dict I.kIn ⟨o, h1, h2.1⟩ e (fun z => nomatch z) h
  | @ins a C dx fs ea cl ha hn htk hm =>
    cases (show u = Value.ref a from rx)
    obtain ⟨mA, O, _⟩ := ins_get I.hok ea
    obtain ⟨od, J, _⟩ := O.look
    exact PySem.W.kia_one (PySem.W.kitx_own (cl.get _) cl.hd ha hn htk hm) I.kIn J e (fun z => nomatch z) h
end
end L2

namespace L2
open PySem PySem.Spec PyProof.Rows

/-! ### room -/
structure Room (k : Nat) (A : Around) : Prop where
  hd : A.handled = none
  dp : A.depth + 3 * k + 5 < recursionLimit
  un : A.units + 16 * k + 200 < cLine
theorem Room.mono {j k : Nat} {A : Around} (r : Room k A) (h : j ≤ k) : Room j A := ⟨r.hd, by have := r.dp; omega, by have := r.un; omega⟩
theorem Room.deeper {k : Nat} {A : Around} (r : Room (k + 1) A) (env : Env) : Room k (A.deeper env) :=
  ⟨r.hd, by have := r.dp; show A.depth + 1 + 3 * k + 5 < _; omega, by have := r.un; show A.units + 3 + 16 * k + 200 < _; omega⟩
theorem Room.in1 {k : Nat} {A : Around} (r : Room (k + 1) A) : Room k A.in1 :=
  ⟨r.hd, by have := r.dp; show A.depth + 3 * k + 5 < _; omega, by have := r.un; show A.units + 1 + 16 * k + 200 < _; omega⟩
theorem make_depth {A : Around} {C : Addr} {us : List Value} {kw : List (Str × Value)} : (A.under (.builtin "type.__call__" ⟨.ref C :: us, kw⟩)).depth = A.depth + 1 := by
  first | rfl | simp [Around.under, Code.weight, Code.isCreation, Code.isGuard, Code.isCaller, Code.frames, Code.isFrame, guardIds]
theorem make_units {A : Around} {C : Addr} {us : List Value} {kw : List (Str × Value)} : (A.under (.builtin "type.__call__" ⟨.ref C :: us, kw⟩)).units = A.units + 1 := by
  first | rfl | simp [Around.under, Code.cUnits, Code.frames, Code.isFrame]
theorem Room.make {k : Nat} {A : Around} (r : Room (k + 1) A) (C : Addr) (us : List Value) (kw : List (Str × Value)) : Room k (A.under (.builtin "type.__call__" ⟨.ref C :: us, kw⟩)) :=
  ⟨r.hd, by have := r.dp; rw [make_depth]; omega, by have := r.un; rw [make_units]; omega⟩
theorem Room.depth {k : Nat} {A : Around} (r : Room k A) : A.depth < recursionLimit := by have := r.dp; omega
theorem Room.units {k : Nat} {A : Around} (r : Room k A) : A.units + 64 < cLine := by have := r.un; omega
theorem Room.units0 {k : Nat} {A : Around} (r : Room k A) : A.units < cLine := by have := r.un; omega

/-! ### argument lists and displays -/
def tNil : TA := fun _ H Q => Q [] H
def tCons (ta : TE) (tr : TA) : TA := fun σ H Q => ta σ H fun x H1 => tr σ H1 fun xs H2 => Q (x :: xs) H2
section
variable {X : Cx} {e : Expr} {es : List Expr} {te : TE} {t : TA} {pos : Pos}
theorem pa_nil : PA X [] tNil := fun _ _ _ _ H Q I h => Calls.spliced_nil ⟨[], H, I, .nil, h⟩
theorem pa_cons (ha : PE X e te) (hr : PA X es t) (hs : starEach (e :: es) X.env = (false, eval e X.env) :: starEach es X.env := by rfl) : PA X (e :: es) (tCons te t) := by
  intro pos pins s σ H Q I h
  rw [hs]
  show wpAny _ _ (spliced ((false, eval e X.env) :: backTo pos (starEach es X.env))) _ _ s
  refine Calls.spliced_cons (thn (ha pins s σ H _ I h) fun u s1 ⟨x, H1, I1, r1, q1⟩ => ?_)
  exact thn (hr pos pins s1 σ H1 _ I1 q1) fun us s2 ⟨xs, H2, I2, r2, q2⟩ => ⟨x :: xs, H2, I2, .cons r1 r2, q2⟩

/-- a tuple, a list of written items -/
def tTup (t : TA) : TE := fun σ H Q => t σ H fun xs H1 => xs.length ≤ sizeLine ∧ ∀ p, H1 p = none → Q (.ref p) (upd H1 p (.tup xs))
def tLst (t : TA) : TE := fun σ H Q => t σ H fun xs H1 => xs.length ≤ sizeLine ∧ ∀ p, H1 p = none → Q (.ref p) (upd H1 p (.lst xs))
theorem pe_tup {x1} (h : PA X es t) : PE X (.Tuple es x1 pos) (tTup t) := by
  intro pins s σ H Q I hq
  refine wpAny_Tuple_spliced (thn (h pos pins s σ H _ I hq) fun us s1 ⟨xs, H1, I1, r, z, q⟩ => ⟨by rw [← r.length]; exact z, ?_⟩)
  have hf : H1 s1.heap.objs.size = none := I1.hok.fresh (Nat.le_refl _)
  refine ⟨.ref s1.heap.objs.size, upd H1 s1.heap.objs.size (.tup xs), I1.laid (t' := s1.toks) (fun b u e => Heap.get?_push_of_some _ e) (Nat.le_refl _) ?_, rfl, q _ hf⟩
  exact ⟨z, us, r, ⟨_, Heap.get?_push_size _ rfl, rfl, _, rfl⟩⟩
theorem pe_lst (h : PA X es t) : PE X (.List es pos) (tLst t) := by
  intro pins s σ H Q I hq
  refine wpAny_List_spliced (thn (h pos pins s σ H _ I hq) fun us s1 ⟨xs, H1, I1, r, z, q⟩ => ⟨by rw [← r.length]; exact z, ?_⟩)
  have hf : H1 s1.heap.objs.size = none := I1.hok.fresh (Nat.le_refl _)
  refine ⟨.ref s1.heap.objs.size, upd H1 s1.heap.objs.size (.lst xs), I1.laid (t' := s1.toks) (fun b u e => Heap.get?_push_of_some _ e) (Nat.le_refl _) ?_, rfl, q _ hf⟩
  exact ⟨z, us, 0, r, Heap.get?_push_size _ rfl⟩
end

/-! ### what a def promises -/
/-- a def's promise: the bound arguments in the parameters' order, the heap, the wanted end, the wanted exception -/
abbrev Sp := List V → Hp → VK → XK → Prop
/-- how an exception lies behind a call (file 08 gives it): the callers' frames, abstract heap and state ahead of the call, the wish, the exception, the state -/
abbrev CXT := List Env → Hp → Shared → XK → Value → Shared → Prop

/-- the state at a call -/
structure Env0 (P : Program) (w : World) (K : PySem.W.Frag) (mg : Str → Option Value) (base : Heap) (A : Around) (outer : List Env) (s : Shared) (H : Hp) : Prop where
  frames : A.frames = some outer
  mod : Mod K mg base
  bs : ∀ b o, base.get? b = some o → s.heap.get? b = some o ∧ H b = none
  bsz : base.objs.size ≤ s.heap.objs.size
  funs : s.heap.FunFrames base outer
  frf : ∀ b ∈ frs outer, H b = none
  hok : HOk P w H s.heap
  bare : AllBare s.gens
/-- a call's end -/
def CE (outer : List Env) (P : Program) (w : World) (H : Hp) (s : Shared) (Q : VK) (u : Value) (s' : Shared) : Prop :=
  ∃ v H', s'.os = s.os ∧ AllBare s'.gens ∧ Un (frs outer) [] H H' s.heap s'.heap ∧ HOk P w H' s'.heap ∧ RelV v u ∧ Q v H'
def CR (CX : CXT) (outer : List Env) (P : Program) (w : World) (H : Hp) (s : Shared) (Q : VK) (E : XK) (r : Result) (s' : Shared) : Prop :=
  match r with
  | .ok (.ret u) => CE outer P w H s Q u s'
  | .ok _ => False
  | .error e => CX outer H s E e s'
structure FnOk (P : Program) (w : World) (K : PySem.W.Frag) (mg : Str → Option Value) (base : Heap) (CX : CXT) (k : Nat) (f : Addr) (fd : FuncData) (ps : List Str) (sp : Sp) : Prop where
  len : ∀ vs H Q E, sp vs H Q E → vs.length = ps.length
  run : ∀ (A : Around) (outer : List Env) (s : Shared) (H : Hp) (args : Args) (us : List Value) (vs : List V) (Q : VK) (E : XK), Room k A → Env0 P w K mg base A outer s H → BindsTo s fd args (ps.zip us) → Vals vs us → sp vs H Q E →
    codeAny (model P w) A (.call (.ref f) args) (CR CX outer P w H s Q E) s
theorem FnOk.mono {P : Program} {w : World} {K : PySem.W.Frag} {mg : Str → Option Value} {base : Heap} {CX : CXT} {j k : Nat} {f : Addr} {fd : FuncData} {ps : List Str} {sp : Sp} (F : FnOk P w K mg base CX j f fd ps sp) (h : j ≤ k) :
    FnOk P w K mg base CX k f fd ps sp := ⟨F.len, fun A outer s H args us vs Q E hr => F.run A outer s H args us vs Q E (hr.mono h)⟩
/-- a weaker promise -/
theorem FnOk.imp {P : Program} {w : World} {K : PySem.W.Frag} {mg : Str → Option Value} {base : Heap} {CX : CXT} {k : Nat} {f : Addr} {fd : FuncData} {ps : List Str} {sp sp' : Sp} (F : FnOk P w K mg base CX k f fd ps sp)
    (h : ∀ vs H Q E, sp' vs H Q E → sp vs H Q E) : FnOk P w K mg base CX k f fd ps sp' :=
  ⟨fun vs H Q E q => F.len vs H Q E (h _ _ _ _ q), fun A outer s H args us vs Q E hr he hb hv hs => F.run A outer s H args us vs Q E hr he hb hv (h _ _ _ _ hs)⟩

theorem Env0.make {P : Program} {w : World} {K : PySem.W.Frag} {mg : Str → Option Value} {base : Heap} {A : Around} {outer : List Env} {s : Shared} {H : Hp} (e : Env0 P w K mg base A outer s H) (C : Addr) (us : List Value) (kw : List (Str × Value)) :
    Env0 P w K mg base (A.under (.builtin "type.__call__" ⟨.ref C :: us, kw⟩)) outer s H := ⟨by first | exact e.frames | (simpa [Around.under, Code.envs, Code.isFrame, pushEnvs] using e.frames), e.mod, e.bs, e.bsz, e.funs, e.frf, e.hok, e.bare⟩
theorem Env0.in1 {P : Program} {w : World} {K : PySem.W.Frag} {mg : Str → Option Value} {base : Heap} {A : Around} {outer : List Env} {s : Shared} {H : Hp} (e : Env0 P w K mg base A outer s H) :
    Env0 P w K mg base A.in1 outer s H := ⟨e.frames, e.mod, e.bs, e.bsz, e.funs, e.frf, e.hok, e.bare⟩

section
variable {X : Cx} {pins : List (Addr × Obj)} {σ : St} {H : Hp} {s s' : Shared}
/-- from a body: what a callee wants -/
theorem Inv.env0 (I : Inv X pins σ H s) : Env0 X.prog X.w X.K X.mg X.base X.A X.stack s H :=
  ⟨I.ok.frames, I.ok.mod, I.bs, Nat.le_trans I.ok.bsz I.sz, I.stack, I.stkFree, I.hok, I.bare⟩
/-- behind a call -/
theorem Inv.after {Q : VK} {u : Value} (I : Inv X pins σ H s) (h : CE X.stack X.prog X.w H s Q u s') : EP X pins σ Q u s' := by
  obtain ⟨v, H', os, bare, un, hok, r, q⟩ := h
  obtain ⟨hh, g, d, t, os'⟩ := s'
  obtain rfl : os' = s.os := os
  exact ⟨v, H', I.call (h' := hh) (g' := g) (d' := d) (t' := t) (ch := []) un hok bare (fun b z => absurd z (by simp)), r, q⟩
end

/-! ### calls -/
/-- f(..): the written arguments, then the defaults dvs; E: what is wanted of an exception -/
def tCall (sp : Sp) (dvs : List V) (E : XK) (t : TA) : TE := fun σ H Q => t σ H fun vs H1 => sp (vs ++ dvs) H1 Q E
/-- o.m(..) of an instance of the class at C -/
def tMeth (C : Addr) (m : Str) (sp : Sp) (dvs : List V) (E : XK) (ta : TE) (t : TA) : TE := fun σ H Q => ta σ H fun x H1 => ∃ a dx fs, x = .ref a ∧ H1 a = some (.ins C dx fs) ∧ fs.lookup m = none ∧
  t σ H1 fun vs H2 => sp (x :: (vs ++ dvs)) H2 Q E
/-- C(..): a new instance and its dict, then __init__ -/
def tMake (C : Addr) (sp : Sp) (dvs : List V) (E : XK) (t : TA) : TE := fun σ H Q => t σ H fun vs H1 => ∀ x dx, H1 x = none → H1 dx = none → dx ≠ x →
  sp (.ref x :: (vs ++ dvs)) (upd (upd H1 dx (.own x)) x (.ins C dx [])) (fun v H2 => v = .non ∧ Q (.ref x) H2) E

/-- how the parameters are bound: us the positional arguments, kw the keywords' values by name, ds the defaults that fill up -/
def Binds (K : PySem.W.Frag) (fd : FuncData) (ps : List Str) (ds : List Value) : Prop :=
  ∀ (s : Shared) (us : List Value), K.In s.heap → (us ++ ds).length = ps.length → BindsTo s fd ⟨us, []⟩ (ps.zip (us ++ ds))
/-- every parameter is given -/
theorem Binds.all {K : PySem.W.Frag} {fd : FuncData} {ps : List Str} (h : ∀ us : List Value, us.length = ps.length → bindArgs fd ⟨us, []⟩ = pure (ps.zip us)) : Binds K fd ps [] := fun s us _ hl => by
  rw [List.append_nil] at hl ⊢
  exact .of_eq (h us hl)

/-- an exception of a callee reaches what this body wants of exceptions -/
def Passes (CX : CXT) (X : Cx) (E : XK) : Prop := ∀ (pins : List (Addr × Obj)) (σ : St) (H : Hp) (s : Shared) (e : Value) (s' : Shared), Inv X pins σ H s → CX X.stack H s E e s' → X.xe e s'

section
variable {X : Cx} {CX : CXT} {k : Nat} {f C : Addr} {fd : FuncData} {ps : List Str} {sp : Sp} {dvs : List V} {ds : List Value} {E : XK} {x m : Str} {p pos apos : Pos} {e o : Expr} {es : List Expr} {ta : TE} {t : TA}

/-- the callee runs -/
theorem run_fn {pins : List (Addr × Obj)} {σ : St} {H : Hp} {s : Shared} {Q : VK} {us : List Value} {vs : List V} (F : FnOk X.prog X.w X.K X.mg X.base CX k f fd ps sp) (hr : Room k X.A) (hb : Binds X.K fd ps ds) (hd : Vals dvs ds) (hx : Passes CX X E)
    (I : Inv X pins σ H s) (r : Vals vs us) (h : sp (vs ++ dvs) H Q E) : wpAny (model X.prog X.w) X.A (call (.ref f) us) (EP X pins σ Q) X.xe s := by
  have r2 : Vals (vs ++ dvs) (us ++ ds) := r.append hd
  have hl : (us ++ ds).length = ps.length := by rw [← r2.length]; exact F.len _ _ _ _ h
  refine wpAny_call (codeAny_mono (F.run X.A X.stack s H ⟨us, []⟩ (us ++ ds) (vs ++ dvs) Q E hr I.env0 (hb s us I.kIn hl) r2 h) fun r s' hq => ?_)
  cases r with
  | error e => exact hx pins σ H s e s' I hq
  | ok fl =>
    cases fl with
    | ret u => exact I.after hq
    | next => exact False.elim hq
    | brk => exact False.elim hq
    | cont => exact False.elim hq

theorem pe_call (F : FnOk X.prog X.w X.K X.mg X.base CX k f fd ps sp) (hr : Room k X.A) (hg : Gl X x) (hm : X.mg x = some (.ref f)) (hk : PySem.W.keepIn X.K (.ref f) = true) (hb : Binds X.K fd ps ds) (hd : Vals dvs ds) (hx : Passes CX X E)
    (ha : PA X (e :: es) t) (hdb : (x == ("__debug__" : Str)) = false := by decide) (he : starEach (e :: es) X.env = (false, eval e X.env) :: starEach es X.env := by rfl) (hpl : (backTo pos (starEach es X.env)).any (·.1) = false := by rfl) :
    PE X (.Call (.Name x p) (e :: es) [] pos) (tCall sp dvs E t) := by
  intro pins s σ H Q I h
  refine wpAny_Call_Name_kw (ld_glob I hg hm ?_ hdb)
  refine PySem.W.callWith_K (h₀ := X.base) I.ok.mod.kin hk (thn (ha pos pins s σ H _ I h) fun us s1 ⟨vs, H1, I1, r, q⟩ => ⟨I1.kIn, ?_⟩) he hpl
  exact run_fn F hr hb hd hx I1 r q
theorem pe_call0 (F : FnOk X.prog X.w X.K X.mg X.base CX k f fd ps sp) (hr : Room k X.A) (hg : Gl X x) (hm : X.mg x = some (.ref f)) (hk : PySem.W.keepIn X.K (.ref f) = true) (hb : Binds X.K fd ps ds) (hd : Vals dvs ds) (hx : Passes CX X E)
    (hdb : (x == ("__debug__" : Str)) = false := by decide) : PE X (.Call (.Name x p) [] [] pos) (tCall sp dvs E tNil) := by
  intro pins s σ H Q I h
  refine wpAny_Call_Name_kw (ld_glob I hg hm ?_ hdb)
  exact PySem.W.callWith_K0 I.kIn hk (run_fn (us := []) F hr hb hd hx I .nil h)

/-- o.m(e, ..) -/
theorem pe_meth {pl : Sem Bool} (he : PE X o ta) (c : Cls X.K C) (hm : Meth X.K C m f) (F : FnOk X.prog X.w X.K X.mg X.base CX k f fd ps sp) (hr : Room k X.A) (hb : Binds X.K fd ps ds) (hd : Vals dvs ds) (hx : Passes CX X E) (ha : PA X (e :: es) t)
    (hst : starEach (e :: es) X.env = (false, eval e X.env) :: starEach es X.env := by rfl) (hpl : (backTo pos (starEach es X.env)).any (·.1) = false := by rfl)
    (ht : eval (.Call (.Attribute o m apos) (e :: es) [] pos) X.env = (do
      let ov ← eval o X.env
      standAt apos.atName
      let (f, first) ← holding [ov] (getMethod ov m pl)
      callWith pos f first (backTo pos (starEach (e :: es) X.env)) (backToKw pos (keywordEach [] X.env))) := by rfl) :
    PE X (.Call (.Attribute o m apos) (e :: es) [] pos) (tMeth C m sp dvs E ta t) := by
  intro pins s σ H Q I h
  refine PySem.W.methodCall_KW (pl := pl) (thn (he pins s σ H _ I h) fun u s1 ⟨x, H1, I1, rx, a, dx, fs, ex, ea, l, q⟩ => ?_) ht
  subst ex
  obtain rfl : u = Value.ref a := rx
  refine getmeth_ok I1 ea c hm l ?_
  refine PySem.W.callWith_K (first := [.ref a]) (h₀ := X.base) I.ok.mod.kin hm.kp (thn (ha pos pins s1 σ H1 _ I1 q) fun us s2 ⟨vs, H2, I2, r, q2⟩ => ⟨I2.kIn, ?_⟩) hst hpl
  exact run_fn (us := .ref a :: us) (vs := .ref a :: vs) F hr hb hd hx I2 (.cons rfl r) q2
/-- o.m() -/
theorem pe_meth0 {pl : Sem Bool} (he : PE X o ta) (c : Cls X.K C) (hm : Meth X.K C m f) (F : FnOk X.prog X.w X.K X.mg X.base CX k f fd ps sp) (hr : Room k X.A) (hb : Binds X.K fd ps ds) (hd : Vals dvs ds) (hx : Passes CX X E)
    (ht : eval (.Call (.Attribute o m apos) [] [] pos) X.env = (do
      let ov ← eval o X.env
      standAt apos.atName
      let (f, first) ← holding [ov] (getMethod ov m pl)
      callWith pos f first (backTo pos (starEach [] X.env)) (backToKw pos (keywordEach [] X.env))) := by rfl) :
    PE X (.Call (.Attribute o m apos) [] [] pos) (tMeth C m sp dvs E ta tNil) := by
  intro pins s σ H Q I h
  refine PySem.W.methodCall_KW (pl := pl) (thn (he pins s σ H _ I h) fun u s1 ⟨x, H1, I1, rx, a, dx, fs, ex, ea, l, q⟩ => ?_) ht
  subst ex
  obtain rfl : u = Value.ref a := rx
  refine getmeth_ok I1 ea c hm l ?_
  exact PySem.W.callWith_K0 (first := [.ref a]) I1.kIn hm.kp (run_fn (us := [.ref a]) (vs := [.ref a]) F hr hb hd hx I1 (.cons rfl .nil) q)

/-- what a class must have to be made -/
structure Mk (K : PySem.W.Frag) (C f : Addr) : Prop where
  makes : PySem.W.makesIn K C = true
  init : PySem.W.findIn K (.ref C) "__init__" = some (some (.ref f))
  fn : PySem.W.isFn K (.ref f) = true
  kp : PySem.W.keepIn K (.ref C) = true

theorem run_make {pins : List (Addr × Obj)} {σ : St} {H : Hp} {s : Shared} {Q : VK} {us : List Value} {vs : List V} (M : Mk X.K C f) (F : FnOk X.prog X.w X.K X.mg X.base CX k f fd ps sp) (hr : Room (k + 1) X.A) (hb : Binds X.K fd ps ds) (hd : Vals dvs ds)
    (hx : Passes CX X E) (I : Inv X pins σ H s) (r : Vals vs us)
    (h : ∀ x dx, H x = none → H dx = none → dx ≠ x → sp (.ref x :: (vs ++ dvs)) (upd (upd H dx (.own x)) x (.ins C dx [])) (fun v H2 => v = .non ∧ Q (.ref x) H2) E) :
    wpAny (model X.prog X.w) X.A (call (.ref C) us) (EP X pins σ Q) X.xe s := by
  have hq := h (s.heap.objs.size + 1) s.heap.objs.size (I.hok.fresh (Nat.le_succ _)) (I.hok.fresh (Nat.le_refl _)) (Nat.ne_of_lt (Nat.lt_succ_self _))
  have I2 := Inv.made (C := C) I
  have r2 : Vals (V.ref (s.heap.objs.size + 1) :: (vs ++ dvs)) (Value.ref (s.heap.objs.size + 1) :: (us ++ ds)) := .cons rfl (r.append hd)
  have hl : (Value.ref (s.heap.objs.size + 1) :: us ++ ds).length = ps.length := by
    have e := r2.length
    rw [F.len _ _ _ _ hq] at e
    exact e.symm
  refine wpAny_call (make_map (f := f) I.kIn M.makes M.init (beq_iff_eq.mp M.fn) (codeAny_mono (F.run _ X.stack _ _ ⟨Value.ref (s.heap.objs.size + 1) :: us, []⟩ (Value.ref (s.heap.objs.size + 1) :: (us ++ ds)) _ _ E (hr.make C us [])
    (I2.env0.make C us []) (hb _ (Value.ref (s.heap.objs.size + 1) :: us) I2.kIn hl) r2 hq) fun r s' hq' => ?_))
  cases r with
  | error e => exact hx pins σ _ _ e s' I2 hq'
  | ok fl =>
    cases fl with
    | ret u =>
      obtain ⟨v, H', I3, rv, ev, q3⟩ := I2.after hq'
      subst ev
      exact ⟨rv, ⟨V.ref (s.heap.objs.size + 1), H', I3, rfl, q3⟩⟩
    | next => exact False.elim hq'
    | brk => exact False.elim hq'
    | cont => exact False.elim hq'
theorem pe_make (M : Mk X.K C f) (F : FnOk X.prog X.w X.K X.mg X.base CX k f fd ps sp) (hr : Room (k + 1) X.A) (hg : Gl X x) (hm : X.mg x = some (.ref C)) (hb : Binds X.K fd ps ds) (hd : Vals dvs ds) (hx : Passes CX X E)
    (ha : PA X (e :: es) t) (hdb : (x == ("__debug__" : Str)) = false := by decide) (he : starEach (e :: es) X.env = (false, eval e X.env) :: starEach es X.env := by rfl) (hpl : (backTo pos (starEach es X.env)).any (·.1) = false := by rfl) :
    PE X (.Call (.Name x p) (e :: es) [] pos) (tMake C sp dvs E t) := by
  intro pins s σ H Q I h
  refine wpAny_Call_Name_kw (ld_glob I hg hm ?_ hdb)
  refine PySem.W.callWith_K (h₀ := X.base) I.ok.mod.kin M.kp (thn (ha pos pins s σ H _ I h) fun us s1 ⟨vs, H1, I1, r, q⟩ => ⟨I1.kIn, ?_⟩) he hpl
  exact run_make M F hr hb hd hx I1 r q
theorem pe_make0 (M : Mk X.K C f) (F : FnOk X.prog X.w X.K X.mg X.base CX k f fd ps sp) (hr : Room (k + 1) X.A) (hg : Gl X x) (hm : X.mg x = some (.ref C)) (hb : Binds X.K fd ps ds) (hd : Vals dvs ds) (hx : Passes CX X E)
    (hdb : (x == ("__debug__" : Str)) = false := by decide) : PE X (.Call (.Name x p) [] [] pos) (tMake C sp dvs E tNil) := by
  intro pins s σ H Q I h
  refine wpAny_Call_Name_kw (ld_glob I hg hm ?_ hdb)
  exact PySem.W.callWith_K0 I.kIn M.kp (run_make (us := []) M F hr hb hd hx I .nil h)
end

/-! ### keywords -/
/-- the values of the keywords, from the left -/
def PK (X : Cx) (kws : List Keyword) (t : TA) : Prop :=
  ∀ (pos : Pos) (pins : List (Addr × Obj)) (s : Shared) (σ : St) (H : Hp) (Q : List V → Hp → Prop), Inv X pins σ H s → t σ H Q → wpAny (model X.prog X.w) X.A (evalAll ((backToKw pos (keywordEach kws X.env)).map (·.2))) (AP X pins σ Q) X.xe s
section
variable {X : Cx} {CX : CXT} {k : Nat} {f C : Addr} {fd : FuncData} {ps ks : List Str} {sp : Sp} {E : XK} {x m : Str} {p pos apos kpos : Pos} {e o : Expr} {es : List Expr} {kws : List Keyword} {te ta : TE} {t tk : TA} {nm : Option Str}
theorem pk_nil : PK X [] tNil := fun _ _ _ _ H Q I h => wpAny_evalAll_nil ⟨[], H, I, .nil, h⟩
theorem pk_cons (ha : PE X e te) (hr : PK X kws t) : PK X (⟨nm, e, kpos⟩ :: kws) (tCons te t) := by
  intro pos pins s σ H Q I h
  show wpAny _ _ (evalAll ((do let v ← eval e X.env; standAt pos; pure v) :: (backToKw pos (keywordEach kws X.env)).map (·.2))) _ _ s
  refine wpAny_evalAll_cons (wpAny_bind (thn (ha pins s σ H _ I h) fun u s1 ⟨x, H1, I1, r1, q1⟩ => wpAny_bind (wpAny_standAt (wpAny_pure ?_))))
  exact thn (hr pos pins s1 σ H1 _ I1 q1) fun us s2 ⟨xs, H2, I2, r2, q2⟩ => ⟨x :: xs, H2, I2, .cons r1 r2, q2⟩

/-- how a call with keywords binds: g puts the positional values us and the keywords' values ws (names ks) in the parameters' order, defaults among them -/
structure KBinds (K : PySem.W.Frag) (fd : FuncData) (ps ks : List Str) (g : List Value → List Value → List Value) (gV : List V → List V → List V) : Prop where
  to : ∀ (s : Shared) (us ws : List Value), K.In s.heap → (g us ws).length = ps.length → BindsTo s fd ⟨us, ks.zip ws⟩ (ps.zip (g us ws))
  rel : ∀ {vs : List V} {us : List Value} {zs : List V} {ws : List Value}, Vals vs us → Vals zs ws → Vals (gV vs zs) (g us ws)
def tCallK (sp : Sp) (gV : List V → List V → List V) (E : XK) (t tk : TA) : TE := fun σ H Q => t σ H fun vs H1 => tk σ H1 fun zs H2 => sp (gV vs zs) H2 Q E
variable {g : List Value → List Value → List Value} {gV : List V → List V → List V}
theorem run_fnk {pins : List (Addr × Obj)} {σ : St} {H : Hp} {s : Shared} {Q : VK} {us ws : List Value} {vs zs : List V} (F : FnOk X.prog X.w X.K X.mg X.base CX k f fd ps sp) (hr : Room k X.A) (hb : KBinds X.K fd ps ks g gV) (hx : Passes CX X E)
    (I : Inv X pins σ H s) (r : Vals vs us) (rz : Vals zs ws) (h : sp (gV vs zs) H Q E) : wpAny (model X.prog X.w) X.A (call (.ref f) us (ks.zip ws)) (EP X pins σ Q) X.xe s := by
  have r2 := hb.rel r rz
  have hl : (g us ws).length = ps.length := by rw [← r2.length]; exact F.len _ _ _ _ h
  refine wpAny_call (codeAny_mono (F.run X.A X.stack s H ⟨us, ks.zip ws⟩ (g us ws) (gV vs zs) Q E hr I.env0 (hb.to s us ws I.kIn hl) r2 h) fun r s' hq => ?_)
  cases r with
  | error e => exact hx pins σ H s e s' I hq
  | ok fl =>
    cases fl with
    | ret u => exact I.after hq
    | next => exact False.elim hq
    | brk => exact False.elim hq
    | cont => exact False.elim hq
/-- f(e, .., k = v, ..) -/
theorem pe_callK (F : FnOk X.prog X.w X.K X.mg X.base CX k f fd ps sp) (hr : Room k X.A) (hg : Gl X x) (hm : X.mg x = some (.ref f)) (hk : PySem.W.keepIn X.K (.ref f) = true) (hb : KBinds X.K fd ps ks g gV) (hx : Passes CX X E)
    (ha : PA X (e :: es) t) (hkw : PK X kws tk) (hall : (backToKw pos (keywordEach kws X.env)).all (·.1.isSome) = true := by rfl) (hks : (backToKw pos (keywordEach kws X.env)).filterMap (·.1) = ks := by rfl)
    (hdb : (x == ("__debug__" : Str)) = false := by decide) (he : starEach (e :: es) X.env = (false, eval e X.env) :: starEach es X.env := by rfl)
    (hpl : ((backTo pos (starEach (e :: es) X.env)).any (·.1) || (backToKw pos (keywordEach kws X.env)).any (·.1.isNone)) = false := by rfl) :
    PE X (.Call (.Name x p) (e :: es) kws pos) (tCallK sp gV E t tk) := by
  intro pins s σ H Q I h
  refine wpAny_Call_Name_kw (ld_glob I hg hm ?_ hdb)
  refine PySem.W.callWith_KW (h₀ := X.base) I.ok.mod.kin hk hall (thn (ha pos pins s σ H _ I h) fun us s1 ⟨vs, H1, I1, r, q⟩ => ?_) hpl he
  refine thn (hkw pos pins s1 σ H1 _ I1 q) fun ws s2 ⟨zs, H2, I2, rz, q2⟩ => ⟨I2.kIn, ?_⟩
  rw [hks]
  exact run_fnk F hr hb hx I2 r rz q2
end

/-! ### a def's body keeps its promise -/
/-- names: the parameters first -/
structure FnScope (N P : List Str) (sc : Scope) : Prop where
  kind : sc.kind = .function
  co : sc.isCoroutine = false
  gen : sc.isGenerator = false
  nd : N.Nodup
  pre : N.take P.length = P
  par : ∀ x ∈ P, sc.names.lookup x = some .local ∨ sc.names.lookup x = some .cell
  nofree : ∀ y ∈ sc.names, y.2 ≠ .free

theorem bindL_out {kindOf : Str → Option NameKind} {x : Str} : ∀ {binds : List (Str × Value)} {m : Str → Option Value}, (∀ v, (x, v) ∉ binds) → bindL kindOf binds m x = m x
  | [], _, _ => rfl
  | (n, v) :: r, m, h => by
    unfold bindL
    rw [bindL_out fun w hw => h w (List.mem_cons_of_mem _ hw)]
    split
    · have : x ≠ n := by rintro rfl; exact h v List.mem_cons_self
      simp [this]
    · rfl
theorem bindC_out {kindOf : Str → Option NameKind} {x : Str} : ∀ {binds : List (Str × Value)} {m : Str → Option Value}, (∀ v, (x, v) ∉ binds) → bindC kindOf binds m x = m x
  | [], _, _ => rfl
  | (n, v) :: r, m, h => by
    unfold bindC
    rw [bindC_out fun w hw => h w (List.mem_cons_of_mem _ hw)]
    split
    · rfl
    · have : x ≠ n := by rintro rfl; exact h v List.mem_cons_self
      simp [this]
theorem bindL_get {kindOf : Str → Option NameKind} {x : Str} {v : Value} : ∀ {P : List Str} {vs : List Value} {i : Nat} {m : Str → Option Value}, P.Nodup → P[i]? = some x → vs[i]? = some v → kindOf x = some .local →
    bindL kindOf (P.zip vs) m x = some v
  | [], _, _, _, _, h, _, _ => by simp at h
  | _ :: _, [], _, _, _, _, h, _ => by simp at h
  | p :: P, w :: vs, 0, m, nd, h1, h2, hk => by
    simp at h1 h2; subst h1; subst h2
    show bindL kindOf ((p, w) :: P.zip vs) m p = _
    unfold bindL
    rw [bindL_out fun v hv => (List.nodup_cons.mp nd).1 (List.of_mem_zip hv).1, if_pos hk]
    simp
  | p :: P, w :: vs, i + 1, m, nd, h1, h2, hk => by
    show bindL kindOf ((p, w) :: P.zip vs) m x = _
    unfold bindL
    exact bindL_get (i := i) (List.nodup_cons.mp nd).2 (by simpa using h1) (by simpa using h2) hk
theorem bindC_get {kindOf : Str → Option NameKind} {x : Str} {v : Value} : ∀ {P : List Str} {vs : List Value} {i : Nat} {m : Str → Option Value}, P.Nodup → P[i]? = some x → vs[i]? = some v → kindOf x ≠ some .local →
    bindC kindOf (P.zip vs) m x = some v
  | [], _, _, _, _, h, _, _ => by simp at h
  | _ :: _, [], _, _, _, _, h, _ => by simp at h
  | p :: P, w :: vs, 0, m, nd, h1, h2, hk => by
    simp at h1 h2; subst h1; subst h2
    show bindC kindOf ((p, w) :: P.zip vs) m p = _
    unfold bindC
    rw [bindC_out fun v hv => (List.nodup_cons.mp nd).1 (List.of_mem_zip hv).1, if_neg hk]
    simp
  | p :: P, w :: vs, i + 1, m, nd, h1, h2, hk => by
    show bindC kindOf ((p, w) :: P.zip vs) m x = _
    unfold bindC
    exact bindC_get (i := i) (List.nodup_cons.mp nd).2 (by simpa using h1) (by simpa using h2) hk

/-- the names' values at the entry -/
def start (N : List Str) (vs : List V) : St := vs.map some ++ List.replicate (N.length - vs.length) none

/-- the context of a def's body, at its entry; an exception leaves the frame, then lies as CX says -/
def cxOf (CX : CXT) (P : Program) (w : World) (K : PySem.W.Frag) (mg : Str → Option Value) (base : Heap) (N : List Str) (qual : Str) (scope : Scope) (f : Addr) (cd : Value) (A : Around) (outer : List Env) (s : Shared) (H : Hp) (E : XK) : Cx where
  prog := P
  w := w
  K := K
  mg := mg
  base := base
  A := A.deeper (envOfC qual scope s.heap.objs.size f cd)
  N := N
  s_0 := s
  H_0 := H
  env := envOfC qual scope s.heap.objs.size f cd
  outer := outer
  stack := envOfC qual scope s.heap.objs.size f cd :: outer
  ex := []
  calm := true
  fn := fun _ => true
  pn := []
  xe := fun e s' => wpAny (model P w) (A.deeper (envOfC qual scope s.heap.objs.size f cd)) (leaving (envOfC qual scope s.heap.objs.size f cd) e) (fun _ s'' => CX outer H s E e s'') (fun e' s'' => CX outer H s E e' s'') s'

theorem cell_has {sc : Scope} {n : Nat} {x : Str} (h : sc.names.lookup x = some .cell) : ∃ c, (cellsFrom n sc.names []).lookup x = some c := by
  have q := PySem.W.cellsFrom_some sc.names n [] (.inl h)
  exact Option.isSome_iff_exists.mp q

theorem inv_start {CX : CXT} {P : Program} {w : World} {K : PySem.W.Frag} {mg : Str → Option Value} {base : Heap} {N ps : List Str} {qual : Str} {scope : Scope} {f : Addr} {cd : Value} {A : Around} {outer : List Env} {s s1 : Shared} {H : Hp} {E : XK} {us : List Value} {vs : List V}
    (S : FnScope N ps scope) (hd : A.handled = none) (e0 : Env0 P w K mg base A outer s H) (hl : vs.length = ps.length) (r : Vals vs us)
    (x : InCallC s s.heap.objs.size (bindL (envOfC qual scope s.heap.objs.size f cd).kindOf (ps.zip us) fun _ => none) (cellsFrom (s.heap.objs.size + 1) scope.names []) (bindC (envOfC qual scope s.heap.objs.size f cd).kindOf (ps.zip us) fun _ => none) s1) :
    Inv (cxOf CX P w K mg base N qual scope f cd A outer s H E) [] (start N vs) H s1 := by
  have hpl : ps.length ≤ N.length := by have := congrArg List.length S.pre; rw [List.length_take] at this; omega
  obtain ⟨h1, tk, rfl, hk⟩ := x.done
  have noA : ∀ b : Addr, b ∉ (cxOf CX P w K mg base N qual scope f cd A outer s H E).ex := fun b z => absurd (show b ∈ ([] : List Addr) from z) (by simp)
  refine ⟨⟨e0.mod, S.kind, rfl, rfl, Nat.le_refl _, fun y z c h1 h2 => ?_, fun y hy => ?_, fun y c _ h => ?_, fun _ => hd, Around.frames_deeper e0.frames, .inr ⟨rfl, rfl⟩, fun b z => absurd z (noA b), e0.bs, e0.bsz, fun b _ _ => noA b, fun b z => absurd z (noA b), e0.funs, e0.frf⟩,
    rfl, e0.bare, Un.kept hk, ⟨_, x.toInCall.ns, fun i y v h1 h2 h3 => ?_⟩, fun y c h => ⟨_, x.cell y c h⟩, e0.hok.fresh (Nat.le_refl _), fun y c h => ?_, fun p hp => absurd (show p ∈ ([] : List (Addr × Obj)) from hp) (by simp), e0.hok.kept hk, ?_⟩
  · exact name_of_addr x.apart (PySem.mem_of_lookup h1) (PySem.mem_of_lookup h2)
  · have hy : scope.names.lookup y = some .cell ∨ scope.names.lookup y = some .free := hy
    rcases hy with hy | hy
    · exact cell_has hy
    · exact absurd rfl (S.nofree _ (PySem.mem_of_lookup hy))
  · exact Nat.le_of_lt (x.above y c (PySem.mem_of_lookup h))
  · have hi : i < vs.length := by
      unfold start at h2
      by_cases hi : i < vs.length
      · exact hi
      · rw [List.getElem?_append_right (by simpa using hi)] at h2
        rw [List.getElem?_replicate] at h2
        split at h2 <;> cases h2
    have ha : vs[i]? = some v := by
      unfold start at h2
      rw [List.getElem?_append_left (by simpa using hi), List.getElem?_map] at h2
      cases e : vs[i]? with
      | none => rw [e] at h2; cases h2
      | some a => rw [e] at h2; cases h2; rfl
    obtain ⟨u, hu, rv⟩ := r.get ha
    have hp : ps[i]? = some y := by
      rw [← S.pre, List.getElem?_take_of_lt (by omega)]; exact h1
    have ndP : ps.Nodup := by rw [← S.pre]; exact S.nd.sublist (List.take_sublist _ _)
    refine ⟨u, rv, ?_⟩
    rcases S.par y (List.mem_of_getElem? hp) with k | k
    · exact .inl ⟨k, bindL_get ndP hp hu k⟩
    · obtain ⟨c, e⟩ := cell_has (n := s.heap.objs.size + 1) k
      refine .inr ⟨.inl k, c, e, ?_⟩
      have q := x.cell y c e
      rw [bindC_get ndP hp hu (by show scope.names.lookup y ≠ _; rw [k]; decide)] at q
      exact q
  · exact e0.hok.fresh (Nat.le_of_lt (x.above y c (PySem.mem_of_lookup h)))
  · unfold start
    show _ = N.length
    rw [List.length_append, List.length_map, List.length_replicate]
    omega

/-- THE RULE: a def (or a method) of the text, by its body. The body's reading t is chosen for each entry; it is run at the parameters' values -/
theorem fn_of {CX : CXT} {P : Program} {w : World} {K : PySem.W.Frag} {mg : Str → Option Value} {base : Heap} {k : Nat} {f : Addr} {name qual : Str} {params : Arguments} {body : List Stmt} {scope : Scope} {dV kV doc pm cdv ct oc : Value} {an od : Option Addr}
    {osl : Array (Option Value)} {N ps : List Str} {sp : Sp} (lk : K.lookup f = some ⟨oc, od, .func (PySem.W.fnOf name qual params body scope dV kV doc pm an cdv ct), osl⟩) (hcd : PySem.W.codeIn K cdv qual = true) (S : FnScope N ps scope)
    (len : ∀ vs H Q E, sp vs H Q E → vs.length = ps.length)
    (hbody : ∀ (A : Around) (outer : List Env) (s : Shared) (H : Hp) (vs : List V) (Q : VK) (E : XK), Room k (A.deeper (envOfC qual scope s.heap.objs.size f cdv)) → sp vs H Q E →
      ∃ t, PSs (cxOf CX P w K mg base N qual scope f cdv A outer s H E) body t ∧ t { nx := fun _ H' => Q .non H', rt := Q } (start N vs) H) :
    FnOk P w K mg base CX (k + 1) f (PySem.W.fnOf name qual params body scope dV kV doc pm an cdv ct) ps sp := by
  refine ⟨len, fun A outer s H args us vs Q E hr e0 hb r hsp => ?_⟩
  have hl := len _ _ _ _ hsp
  have KX : K.In s.heap := e0.mod.kin.keeps fun b o e => (e0.bs b o e).1
  have lim : s.heap.NoLimit := e0.mod.nolimit.keeps fun b o e => (e0.bs b o e).1
  have hkind : ∀ y ∈ ps.zip us, scope.names.lookup y.1 = some .local ∨ (scope.names.lookup y.1 = some .cell ∧ ((cellsFrom (s.heap.objs.size + 1) scope.names []).lookup y.1).isSome = true) := fun ⟨n, v⟩ hy => by
    rcases S.par n (List.of_mem_zip hy).1 with q | q
    · exact .inl q
    · exact .inr ⟨q, PySem.W.cellsFrom_some _ _ _ (.inl q)⟩
  refine codeAny_call_function hr.depth (KX _ _ lk) rfl S.co S.gen rfl (PySem.W.codeRec_of KX hcd) (hb _ _ _ _ ?_)
  refine wpAny_newFunctionEnv_cells S.kind hkind fun env he s1 x => ?_
  subst he
  refine ⟨lim.keeps x.toInCall.keep, codeAny_func ?_⟩
  obtain ⟨t, ht, hq⟩ := hbody A outer s H vs Q E (hr.deeper _) hsp
  have I : Inv (cxOf CX P w K mg base N qual scope f cdv A outer s H E) [] (start N vs) H s1 := inv_start S hr.hd e0 hl r x
  refine wpAny_mono (ht [] s1 (start N vs) H _ I hq) (fun fl s' hs => ?_) fun e s' hs => hs
  have fin : ∀ {σ' : St} {H' : Hp} {v : V} {u : Value}, Inv (cxOf CX P w K mg base N qual scope f cdv A outer s H E) [] σ' H' s' → RelV v u → Q v H' → CE outer P w H s Q u s' :=
    fun {σ' H' v u} J rv q => ⟨v, H', J.os, J.bare, J.base, J.hok, rv, q⟩
  cases fl with
  | ret u =>
    obtain ⟨v, σ', H', J, rv, q⟩ := hs
    exact fin J rv q
  | next =>
    obtain ⟨σ', H', J, q⟩ := hs
    exact fin (v := V.non) (u := Value.none) J rfl q
  | brk =>
    obtain ⟨_, _, _, q⟩ := hs
    exact False.elim q
  | cont =>
    obtain ⟨_, _, _, q⟩ := hs
    exact False.elim q
end L2

namespace L2
open PySem PySem.Spec PyProof.Rows
section
variable {X : Cx} {x : Str} {p pos : Pos} {e : Expr} {es : List Expr} {t : TA} {id T : String} {r : List V → Hp → VK → Prop}

def tCB (r : List V → Hp → VK → Prop) (t : TA) : TE := fun σ H Q => t σ H fun vs H1 => r vs H1 Q
/-- f(e, ..), f a built-in function -/
theorem pe_callB (hc : CallR X (.builtin id) r) (hg : Gl X x) (hm : X.mg x = none) (hv : bootBuiltins x = some (.builtin id)) (ha : PA X (e :: es) t) (hn : x ≠ "__name__" := by decide) (hdb : (x == ("__debug__" : Str)) = false := by decide)
    (he : starEach (e :: es) X.env = (false, eval e X.env) :: starEach es X.env := by rfl) (hpl : (backTo pos (starEach es X.env)).any (·.1) = false := by rfl) : PE X (.Call (.Name x p) (e :: es) [] pos) (tCB r t) := by
  intro pins s σ H Q I h
  refine wpAny_Call_Name_kw (ld_blt I hg hm hv ?_ hn hdb)
  exact PyProof.Rows.callWith_builtin1 (thn (ha pos pins s σ H _ I h) fun us s1 ⟨vs, H1, I1, r1, q1⟩ => hc pins s1 σ H1 vs us Q I1 r1 q1) he hpl
/-- T(e, ..), T a built-in type -/
theorem pe_callTy (hc : CallR X (.type T) r) (hg : Gl X x) (hm : X.mg x = none) (hv : bootBuiltins x = some (.type T)) (ha : PA X (e :: es) t) (hn : x ≠ "__name__" := by decide) (hdb : (x == ("__debug__" : Str)) = false := by decide)
    (he : starEach (e :: es) X.env = (false, eval e X.env) :: starEach es X.env := by rfl) (hpl : (backTo pos (starEach es X.env)).any (·.1) = false := by rfl) : PE X (.Call (.Name x p) (e :: es) [] pos) (tCB r t) := by
  intro pins s σ H Q I h
  refine wpAny_Call_Name_kw (ld_blt I hg hm hv ?_ hn hdb)
  exact PyProof.Rows.callWith_type1 (thn (ha pos pins s σ H _ I h) fun us s1 ⟨vs, H1, I1, r1, q1⟩ => hc pins s1 σ H1 vs us Q I1 r1 q1) he hpl
/-- T() -/
theorem pe_callTy0 (hc : CallR X (.type T) r) (hg : Gl X x) (hm : X.mg x = none) (hv : bootBuiltins x = some (.type T)) (hn : x ≠ "__name__" := by decide) (hdb : (x == ("__debug__" : Str)) = false := by decide) :
    PE X (.Call (.Name x p) [] [] pos) (tCB r tNil) := by
  intro pins s σ H Q I h
  refine wpAny_Call_Name_kw (ld_blt I hg hm hv ?_ hn hdb)
  exact PyProof.Rows.callWith_type0 (hc pins s σ H [] [] Q I .nil h)
end
end L2

namespace HT
open PySem PyProof.Rows

/-- t < u of tuples of ints -/
def lexLt : List Int → List Int → Bool
  | [], [] => false
  | [], _ :: _ => true
  | _ :: _, [] => false
  | x :: xs, y :: ys => if x = y then lexLt xs ys else decide (x < y)
theorem lexLt_cons (x y : Int) (xs ys : List Int) : lexLt (x :: xs) (y :: ys) = if x = y then lexLt xs ys else decide (x < y) := rfl
theorem lexLt_nil_nil : lexLt [] [] = false := rfl
theorem lexLt_nil_cons (y : Int) (ys : List Int) : lexLt [] (y :: ys) = true := rfl
theorem lexLt_cons_nil (x : Int) (xs : List Int) : lexLt (x :: xs) [] = false := rfl

theorem eqAt_int (A : Around) (s : Shared) (a : Int) (t : Tok) (c : Int) (u : Tok) : ∃ e, SeqAt.EqAt A s (.int a t) (.int c u) e ∧ (e = true ↔ a = c) :=
  ⟨(a == c), SeqAt.EqAt.int_int a t c u, by simp⟩
theorem rcLt_int (A : Around) (s : Shared) (a : Int) (t : Tok) (c : Int) (u : Tok) (prog : Program) (w : World) (E : Value → Shared → Prop) (Q : Value → Shared → Prop) (h : Q (.bool (decide (a < c))) s) :
    wpAny (model prog w) A (richCompare .Lt (.int a t) (.int c u)) Q E s :=
  (PyProof.Rows.lt_int h : wpAny (model prog w) A (compareOp .Lt (.int a t) (.int c u)) Q E s)

section
open PySem.SeqAt
open PySem.AutoSeq1 (wpAny_loadPart')
open PySem.MeetsSeq PySem.MeetsSeq2 PySem.MeetsSeq3

theorem tuple_lt_ints (l b : Addr) (items items2 : Array Value) (n n2 : Nat) (dd dd2 : Option Addr) (sl sl2 : Array (Option Value)) (ns ms : List Int) (hi : IntsAre items.toList ns) (hj : IntsAre items2.toList ms) :
    Meets (Builtin.«tuple.__lt__» ⟨[.ref l, .ref b], []⟩)
      (fun _ R s => s.heap.get? l = some { cls := .type "tuple", dict := dd, data := .seq items n, slots := sl } ∧ s.heap.get? b = some { cls := .type "tuple", dict := dd2, data := .seq items2 n2, slots := sl2 } ∧
        R (.ok (.ret (.bool (lexLt ns ms)))) s) :=
  .of_wp fun prog w A R s h => by
    obtain ⟨hp, g, d, tk, os⟩ := s; obtain ⟨hl, hb, h⟩ := h
    have f2 := AutoSeq1.sub_tuple_tuple
    have z1 : items.size = ns.length := by rw [← hi.length]; simp
    have z2 : items2.size = ms.length := by rw [← hj.length]; simp
    wp_walk using wpAny_loadPart' hl, wpAny_loadPart' hb, wpAny_forIn_list _ (fun rest b s' => b.1 = none ∧ s' = ⟨hp, g, d, tk, os⟩ ∧ ∃ (vs ws : List Value) (ns' ms' : List Int), rest = vs.zip ws ∧
      IntsAre vs ns' ∧ IntsAre ws ms' ∧ ns'.length + items2.size = ms'.length + items.size ∧ R (.ok (.ret (.bool (lexLt ns' ms')))) ⟨hp, g, d, tk, os⟩) _
    case turn =>
      rintro ⟨y, x⟩ rest b s' ⟨hb', rfl, vs, ws, ns', ms', hz, hvi, hwi, hlen, hR⟩
      cases hvi with
      | nil => rw [List.zip_nil_left] at hz; cases hz
      | cons a t hvi' =>
        cases hwi with
        | nil => rw [List.zip_nil_right] at hz; cases hz
        | cons c u hwi' =>
          rw [List.zip_cons_cons] at hz
          injection hz with hyx hrest
          injection hyx with hy hx
          subst hy hx
          rw [lexLt_cons] at hR
          simp only [List.length_cons] at hlen
          obtain ⟨e, he, hiff⟩ := eqAt_int A.in1 ⟨hp, g, d, tk, os⟩ a t c u
          refine wpAny_bind (he prog w _ _ ?_)
          cases e with
          | true =>
            rw [if_pos (hiff.mp rfl)] at hR
            wp_walk
            exact ⟨rfl, rfl, _, _, _, _, hrest, hvi', hwi', by omega, hR⟩
          | false =>
            rw [if_neg (fun q => absurd (hiff.mpr q) Bool.false_ne_true)] at hR
            have hri := rcLt_int A.in1 ⟨hp, g, d, tk, os⟩ a t c u prog w
            wp_walk using hri
            exact ⟨_, rfl, by simpa using hR⟩
    case fin =>
      rintro ⟨b1, b2⟩ s' ⟨hb', rfl, vs, ws, ns', ms', hz, hvi, hwi, hlen, hR⟩
      simp only at hb'
      subst hb'
      have hv : lexLt ns' ms' = decide (items.size < items2.size) := by
        cases hvi with
        | nil =>
          cases hwi with
          | nil =>
            simp only [List.length_nil] at hlen
            rw [lexLt_nil_nil]
            exact (decide_eq_false (by omega)).symm
          | cons c u hw =>
            simp only [List.length_nil, List.length_cons] at hlen
            rw [lexLt_nil_cons]
            exact (decide_eq_true (by omega)).symm
        | cons a t hv =>
          cases hwi with
          | nil =>
            simp only [List.length_nil, List.length_cons] at hlen
            rw [lexLt_cons_nil]
            exact (decide_eq_false (by omega)).symm
          | cons c u hw =>
            rw [List.zip_cons_cons] at hz
            cases hz
      rw [hv] at hR
      wp_walk
      exact ⟨_, rfl, by simpa [Builtin.Tuple.tupleCompareSizes] using hR⟩
    case h =>
      exact ⟨rfl, rfl, items.toList, items2.toList, ns, ms, rfl, hi, hj, by omega, h⟩
end

section
variable {prog : Program} {w : World} {A : Around} {E : Value → Shared → Prop} {s : Shared}

theorem lt_tupInts {l b : Addr} {items items2 : Array Value} {ns ms : List Int} {Q : Value → Shared → Prop} (hl : IsTup s.heap l items) (hb : IsTup s.heap b items2) (hi : IntsAre items.toList ns) (hj : IntsAre items2.toList ms)
    (hu : A.units < cLine) (h : Q (.bool (lexLt ns ms)) s) : wpAny (model prog w) A (compareOp .Lt (.ref l) (.ref b)) Q E s := by
  obtain ⟨⟨cls, dd, data, sl⟩, ho, hc, n, hd⟩ := id hl
  obtain ⟨⟨cls2, dd2, data2, sl2⟩, ho2, hc2, n2, hd2⟩ := id hb
  simp only at hc hd hc2 hd2
  subst hc hd hc2 hd2
  exact richCompare_meets_room (op := .Lt) ⟨_, ho, rfl⟩ ⟨_, ho2, rfl⟩ PySem.F.slot_tuple_lt PySem.F.entry_tuple_lt (PySem.F.args_tuple_lt_2 _ _) (tuple_lt_ints l b items items2 n n2 dd dd2 sl sl2 ns ms hi hj)
    ⟨ho, ho2, show Value.bool (lexLt ns ms) ≠ Value.notImplemented ∧ Q (.bool (lexLt ns ms)) s from ⟨(fun x => nomatch x), h⟩⟩ hu

/-- t + u, t not empty -/
theorem cat_tup {t b : Addr} {vs ws : List Value} {Q : Value → Shared → Prop} (ht : IsTup s.heap t vs.toArray) (hb : IsTup s.heap b ws.toArray) (hv : vs ≠ [])
    (h1 : ws = [] → Q (.ref t) s) (h2 : ws ≠ [] → Q (.ref s.heap.objs.size) { s with heap := s.heap.push { cls := .type "tuple", data := .seq (vs ++ ws).toArray } })
    (hsz : vs.length + ws.length ≤ sizeLine) : wpAny (model prog w) A (binaryOp .Add (.ref t) (.ref b)) Q E s := by
  obtain ⟨⟨cls, dd, data, sl⟩, ho, hc, n, hd⟩ := id ht
  obtain ⟨⟨cls2, dd2, data2, sl2⟩, ho2, hc2, n2, hd2⟩ := id hb
  simp only at hc hd hc2 hd2
  subst hc hd hc2 hd2
  have e : vs.toArray ++ ws.toArray = (vs ++ ws).toArray := by simp
  by_cases hw : ws = []
  · exact concat_meets ⟨_, ho, rfl⟩ ⟨_, ho2, rfl⟩ noFill_tuple_add seq_tuple_add PySem.F.slot_tuple_add PySem.F.entry_tuple_add (PySem.F.args_tuple_add_2 _ _)
      (tuple_addW1 t b vs.toArray ws.toArray n n2 dd dd2 sl sl2 (by simpa using hv) (by simp [hw])) ⟨ho, ho2, h1 hw⟩
  · refine concat_meets ⟨_, ho, rfl⟩ ⟨_, ho2, rfl⟩ noFill_tuple_add seq_tuple_add PySem.F.slot_tuple_add PySem.F.entry_tuple_add (PySem.F.args_tuple_add_2 _ _)
      (tuple_addW2 t b vs.toArray ws.toArray n n2 dd dd2 sl sl2 (by simpa using hv) (by simpa using hw) (by rw [List.size_toArray, List.size_toArray]; exact hsz)) ⟨ho, ho2, ?_⟩
    rw [e]
    exact h2 hw

/-! ### t[a:b], not the whole -/
/-- a slice's bound as a place among n (d where it is left out) -/
def sIx (n d : Nat) : Option Int → Nat
  | none => d
  | some v => if v < 0 then (v + (n : Int)).toNat else min v.toNat n
theorem sIx_none (n d : Nat) : sIx n d none = d := rfl
theorem sIx_nat (n d k : Nat) : sIx n d (some (k : Int)) = min k n := by
  show (if (k : Int) < 0 then ((k : Int) + (n : Int)).toNat else min (k : Int).toNat n) = min k n
  rw [if_neg (by omega), Int.toNat_natCast]
theorem sIx_le (n d : Nat) (hd : d ≤ n) (o : Option Int) : sIx n d o ≤ n := by
  cases o with
  | none => exact hd
  | some v =>
    show (if v < 0 then (v + (n : Int)).toNat else min v.toNat n) ≤ n
    by_cases hv : v < 0
    · rw [if_pos hv]; omega
    · rw [if_neg hv]; exact Nat.min_le_right _ _
theorem clip_eq (v : Int) (n d : Nat) : (if v < 0 then max (v + (n : Int)) 0 else min v (n : Int)) = ((sIx n d (some v) : Nat) : Int) := by
  show (if v < 0 then max (v + (n : Int)) 0 else min v (n : Int)) = (((if v < 0 then (v + (n : Int)).toNat else min v.toNat n) : Nat) : Int)
  by_cases hv : v < 0
  · simp only [if_pos hv]; omega
  · simp only [if_neg hv]; omega
theorem adjust_gen (lo hi : Option Int) (n : Nat) : Builtin.Slice.sliceAdjust lo hi 1 (n : Int) = (((sIx n 0 lo : Nat) : Int), ((sIx n n hi : Nat) : Int)) := by
  have h1 : ¬ ((1 : Int) < 0) := by omega
  unfold Builtin.Slice.sliceAdjust
  simp only [h1, if_false]
  refine Prod.ext ?_ ?_
  · cases lo with
    | none => rfl
    | some v => exact clip_eq v n 0
  · cases hi with
    | none => rfl
    | some v => exact clip_eq v n n
theorem places_gen (i j : Nat) : Builtin.Slice.slicePlaces (i : Int) (j : Int) 1 = j - i := by
  unfold Builtin.Slice.slicePlaces
  have h1 : (1 : Int) > 0 := by omega
  simp only [h1, if_true, Int.ediv_one]
  split <;> omega
theorem slicePart_ {v : Value} {o : Option Int} {Q : Option Int → Shared → Prop} (p : IsPart v o) (h : Q o s) : wpAny (model prog w) A (Builtin.Slice.slicePartIndex v) Q E s := by
  cases p with
  | none => exact slicePart_none h
  | int i t => exact slicePart_int h
theorem sliceApplied_gen {sl : Addr} {vl vu : Value} {lo hi : Option Int} {n : Nat} {Q : Int × Int × Nat → Shared → Prop} (hs : s.heap.IsSliceOf sl vl vu .none) (pl : IsPart vl lo) (pu : IsPart vu hi)
    (h : Q (((sIx n 0 lo : Nat) : Int), 1, sIx n n hi - sIx n 0 lo) s) : wpAny (model prog w) A (Builtin.Slice.sliceApplied (.ref sl) (pure (n : Int))) Q E s := by
  obtain ⟨os, hos, hcs, hds⟩ := id hs
  unfold Builtin.Slice.sliceApplied Builtin.Slice.sliceFields
  refine wpAny_bind (wpAny_bind (wpAny_field hos hds (x := vl) rfl (wpAny_bind (wpAny_field hos hds (x := vu) rfl (wpAny_bind (wpAny_field hos hds (x := .none) rfl (wpAny_pure ?_)))))))
  refine wpAny_bind (slicePart_none ?_)
  show wpAny _ _ (if ((1 : Int) == 0) = true then _ else _) _ _ s
  rw [if_neg (by decide)]
  refine wpAny_bind (slicePart_ pl (wpAny_bind (slicePart_ pu (wpAny_bind (wpAny_pure ?_)))))
  show wpAny _ _ (match Builtin.Slice.sliceAdjust lo hi 1 (n : Int) with | (lo, hi) => pure (lo, (1 : Int), Builtin.Slice.slicePlaces lo hi 1)) _ _ s
  rw [adjust_gen lo hi n]
  show wpAny _ _ (pure (((sIx n 0 lo : Nat) : Int), (1 : Int), Builtin.Slice.slicePlaces ((sIx n 0 lo : Nat) : Int) ((sIx n n hi : Nat) : Int) 1)) _ _ s
  rw [places_gen]
  exact wpAny_pure h
theorem pick_gen (xs : Array Value) (i k : Nat) : ((List.range k).filterMap fun (m : Nat) => xs[((i : Int) + (m : Int) * 1).toNat]?).toArray = ((xs.toList.drop i).take k).toArray := by
  have e : (fun (m : Nat) => xs[((i : Int) + (m : Int) * 1).toNat]?) = fun m => xs[i + m]? := by
    funext m
    have : ((i : Int) + (m : Int) * 1).toNat = i + m := by omega
    rw [this]
  rw [e]
  have := pick_run xs i k
  rw [List.filterMap_map] at this
  have e2 : ((fun x => xs[x]?) ∘ fun x => i + x) = fun m => xs[i + m]? := rfl
  rw [e2] at this
  rw [this]

theorem getItem_tuple_cut {t sl : Addr} {items : Array Value} {vl vu : Value} {lo hi : Option Int} {Q : Value → Shared → Prop} (ht : IsTup s.heap t items) (hs : s.heap.IsSliceOf sl vl vu .none) (pl : IsPart vl lo) (pu : IsPart vu hi)
    (hw : ¬ (sIx items.size 0 lo = 0 ∧ sIx items.size items.size hi = items.size))
    (h : Q (.ref s.heap.objs.size) { s with heap := s.heap.push { cls := .type "tuple", data := .seq ((items.toList.drop (sIx items.size 0 lo)).take (sIx items.size items.size hi - sIx items.size 0 lo)).toArray } })
    (hsz : items.size ≤ sizeLine) : wpAny (model prog w) A (getItem (.ref t) (.ref sl)) Q E s := by
  have htake : sizeOk (.seq ((items.toList.drop (sIx items.size 0 lo)).take (sIx items.size items.size hi - sIx items.size 0 lo)).toArray) := by
    show ((items.toList.drop (sIx items.size 0 lo)).take (sIx items.size items.size hi - sIx items.size 0 lo)).toArray.size ≤ sizeLine
    rw [List.size_toArray, List.length_take, List.length_drop, Array.length_toList]
    omega
  have hj : sIx items.size items.size hi ≤ items.size := sIx_le _ _ (Nat.le_refl _) hi
  obtain ⟨os, hos, hcs, hds⟩ := id hs
  have hTs : s.TypeIs (.ref sl) "slice" := ⟨os, hos, hcs⟩
  unfold getItem
  try with_reducible refine wpAny_holding ?_
  first | refine wpAny_bind (wpAny_pure ?_) | skip
  refine wpAny_bind (wpAny_sequenceKey ht.typeIs (by decide) ?_)
  refine wpAny_bind (wpAny_callSpecial?_slot (name := Str.ofString "__getitem__") ht.typeIs PyProof.Rows.slot_tuple_getitem
    (wpAny_call_entry PyProof.Rows.slot_tuple_getitem ht.typeIs entry_tuple_getitem ?_ (args_tuple_getitem _ _)))
  show wpAny _ _ (Builtin.Tuple.tupleItemsOf (.ref t) >>= _) _ _ s
  refine wpAny_bind (tupleItemsOf_ ht ?_)
  refine wpAny_bind (wpAny_typeOf hTs ?_)
  rw [if_pos (by decide)]
  refine wpAny_bind (sliceApplied_gen hs pl pu ?_)
  have hno : ¬ ((((sIx items.size 0 lo : Nat) : Int) == 0 && (1 : Int) == 1 && (sIx items.size items.size hi - sIx items.size 0 lo) == items.size) = true) := by
    intro q
    rw [Bool.and_eq_true, Bool.and_eq_true] at q
    have q1 : ((sIx items.size 0 lo : Nat) : Int) = 0 := eq_of_beq q.1.1
    have q2 : sIx items.size items.size hi - sIx items.size 0 lo = items.size := eq_of_beq q.2
    exact hw ⟨by omega, by omega⟩
  show wpAny _ _ (if (((sIx items.size 0 lo : Nat) : Int) == 0 && (1 : Int) == 1 && (sIx items.size items.size hi - sIx items.size 0 lo) == items.size) = true then _ else _) _ _ s
  rw [if_neg hno, pick_gen]
  first
    | exact wpAny_bind (m := Builtin.Tuple.tupleExact _) (wpAny_newObj_type (wpAny_pure ⟨_, rfl, wpAny_pure h⟩) htake)
    | exact wpAny_bind (m := Builtin.Tuple.tupleExact _) (wpAny_newObj_type (wpAny_bind (wpAny_pure (wpAny_pure ⟨_, rfl, wpAny_pure h⟩))) htake)
    | exact wpAny_bind (wpAny_bind (m := Builtin.Tuple.tupleExact _) (wpAny_newObj_type (wpAny_pure (wpAny_pure ⟨_, rfl, wpAny_pure h⟩)) htake))
    | exact wpAny_bind (wpAny_bind (m := Builtin.Tuple.tupleExact _) (wpAny_newObj_type (wpAny_pure ⟨_, rfl, wpAny_pure h⟩) htake))
end
end HT

namespace L2
open PySem PySem.Spec PyProof.Rows

/-! ### the parts of a slice -/
abbrev TO := St → Hp → (Option Int → Hp → Prop) → Prop
/-- a slice's part (left out, or an int) -/
def PO (X : Cx) (e : Option Expr) (t : TO) : Prop :=
  ∀ (pins : List (Addr × Obj)) (s : Shared) (σ : St) (H : Hp) (Q : Option Int → Hp → Prop), Inv X pins σ H s → t σ H Q →
    wpAny (model X.prog X.w) X.A (evalPart e X.env) (fun u s' => ∃ o H', Inv X pins σ H' s' ∧ IsPart u o ∧ Q o H') X.xe s
def tNoPart : TO := fun _ H Q => Q none H
def tPart (t : TE) : TO := fun σ H Q => t σ H fun x H1 => ∃ i, x = .int i ∧ Q (some i) H1

theorem intsAre_of {ns : List Int} : ∀ {us : List Value}, Vals (ns.map V.int) us → IntsAre us ns := by
  induction ns with
  | nil => intro us r; rw [List.map_nil] at r; cases r; exact .nil
  | cons n ns ih =>
    intro us r
    rw [List.map_cons] at r
    cases r with
    | cons r1 r2 =>
      obtain ⟨t, e⟩ := r1
      subst e
      exact .cons n t (ih r2)

section
variable {X : Cx} {e : Expr} {te : TE} {lo hi : Option Expr} {tl th : TO} {pos p2 : Pos}

theorem po_none : PO X none tNoPart := by
  intro pins s σ H Q I h
  rw [evalPart_none]
  exact wpAny_pure ⟨none, H, I, .none, h⟩
theorem po_some (h : PE X e te) : PO X (some e) (tPart te) := by
  intro pins s σ H Q I hw
  rw [evalPart_some]
  refine thn (h pins s σ H _ I hw) fun u s1 ⟨x, H1, I1, r1, q1⟩ => ?_
  obtain ⟨i, rfl, q⟩ := q1
  obtain ⟨t, rfl⟩ := r1
  exact ⟨some i, H1, I1, .int i t, q⟩

/-- what a slice of a value is, by values: the slice object stands at sl -/
def SlR (X : Cx) (r : V → Option Int → Option Int → Hp → VK → Prop) : Prop :=
  ∀ (pins : List (Addr × Obj)) (s : Shared) (σ : St) (H : Hp) (x : V) (v vl vu : Value) (lo hi : Option Int) (sl : Addr) (Q : VK), Inv X pins σ H s → RelV x v → s.heap.IsSliceOf sl vl vu .none → IsPart vl lo → IsPart vu hi → r x lo hi H Q →
    ∃ T id, typeLookup (.type T) "__getitem__" = pure (some (.builtin id)) ∧ s.TypeIs v T ∧ wpAny (model X.prog X.w) X.A (getItem v (.ref sl)) (EP X pins σ Q) X.xe s
theorem SlR.or {r r' : V → Option Int → Option Int → Hp → VK → Prop} (h : SlR X r) (h' : SlR X r') : SlR X (fun x lo hi H Q => r x lo hi H Q ∨ r' x lo hi H Q) := by
  intro pins s σ H x v vl vu lo hi sl Q I rx hs pl pu q
  rcases q with q | q
  · exact h pins s σ H x v vl vu lo hi sl Q I rx hs pl pu q
  · exact h' pins s σ H x v vl vu lo hi sl Q I rx hs pl pu q
def tSl (r : V → Option Int → Option Int → Hp → VK → Prop) (te : TE) (tl th : TO) : TE := fun σ H Q => te σ H fun x H1 => tl σ H1 fun l H2 => th σ H2 fun u H3 => r x l u H3 Q
/-- a[lo:hi], any a -/
theorem pe_slice {r : V → Option Int → Option Int → Hp → VK → Prop} (hr : SlR X r) (he : PE X e te) (hl : PO X lo tl) (hu : PO X hi th) : PE X (.Subscript e (.Slice lo hi none p2) pos) (tSl r te tl th) := by
  intro pins s σ H Q I h
  refine Subscript_ (thn (he pins s σ H _ I h) fun v s1 ⟨x, H1, I1, r1, q1⟩ => ?_)
  refine wpAny_Slice (thn (hl pins s1 σ H1 _ I1 q1) fun vl s2 ⟨l, H2, I2, pl, q2⟩ => thn (hu pins s2 σ H2 _ I2 q2) fun vu s3 ⟨u, H3, I3, pu, q3⟩ => ?_)
  rw [evalPart_none]
  refine wpAny_pure ?_
  have I4 : Inv X pins σ H3 { s3 with heap := s3.heap.push { cls := .type "slice", data := .fields #[vl, vu, .none] } } := I3.kept (t' := s3.toks) fun b ob q => Heap.get?_push_of_some _ q
  obtain ⟨T, id, hT, ht, hg⟩ := hr pins { s3 with heap := s3.heap.push { cls := .type "slice", data := .fields #[vl, vu, .none] } } σ H3 x v vl vu l u s3.heap.objs.size Q I4 r1 (Heap.IsSliceOf.new ..) pl pu q3
  show wpAny (model X.prog X.w) X.A (subscriptTail e (.Slice lo hi none p2) v (.ref s3.heap.objs.size)) (EP X pins σ Q) X.xe { s3 with heap := s3.heap.push { cls := .type "slice", data := .fields #[vl, vu, .none] } }
  exact tail_any (ops := [.ref s3.heap.objs.size, v]) ht hT hg (by with_unfolding_all rfl)

/-- the items of xs[lo:hi] -/
def cutV (xs : List V) (lo hi : Option Int) : List V := (xs.drop (HT.sIx xs.length 0 lo)).take (HT.sIx xs.length xs.length hi - HT.sIx xs.length 0 lo)
theorem cutV_length (xs : List V) (lo hi : Option Int) : (cutV xs lo hi).length ≤ xs.length := by
  unfold cutV
  rw [List.length_take, List.length_drop]
  omega
/-- t[lo:hi], not the whole of it (the whole would be t itself) -/
def rSlT (K : PySem.W.Frag) : V → Option Int → Option Int → Hp → VK → Prop := fun x lo hi H Q => ∃ a xs, x = .ref a ∧ SqT K H a xs ∧
  ¬ (HT.sIx xs.length 0 lo = 0 ∧ HT.sIx xs.length xs.length hi = xs.length) ∧ ∀ p, H p = none → Q (.ref p) (upd H p (.tup (cutV xs lo hi)))
theorem sl_tup : SlR X (rSlT X.K) := by
  intro pins s σ H x v vl vu lo hi sl Q I rx hs pl pu h
  obtain ⟨a, xs, rfl, hx, hw, q⟩ := h
  cases rx
  obtain ⟨its, r, ht, hz⟩ := I.tuple hx
  have hlen : its.toArray.size = xs.length := by rw [List.size_toArray]; exact r.length.symm
  refine ⟨"tuple", _, PyProof.Rows.slot_tuple_getitem.lookup, ht.typeIs, ?_⟩
  refine HT.getItem_tuple_cut ht hs pl pu (by rw [hlen]; exact hw) ?_ (by rw [hlen]; exact hz)
  rw [hlen]
  refine ⟨.ref s.heap.objs.size, _, I.laid (t' := s.toks) (o := .tup (cutV xs lo hi)) (fun b ob q => Heap.get?_push_of_some _ q) (Nat.le_refl _) ?_, rfl, q _ (I.hok.fresh (Nat.le_refl _))⟩
  exact ⟨Nat.le_trans (cutV_length xs lo hi) hz, _, (r.drop (HT.sIx xs.length 0 lo)).take (HT.sIx xs.length xs.length hi - HT.sIx xs.length 0 lo), IsTup.new _ _⟩

/-! ### t < u, t + u -/
def rLtT (K : PySem.W.Frag) : R2 := fun x y H Q => ∃ a b ns ms, x = .ref a ∧ y = .ref b ∧ SqT K H a (ns.map V.int) ∧ SqT K H b (ms.map V.int) ∧ Q (.bl (HT.lexLt ns ms)) H
theorem op_ltT (hu : X.A.units < cLine) : OpR X (compareOp .Lt) (rLtT X.K) := by
  intro pins s σ H x y v u Q I rx ry h
  obtain ⟨a, b, ns, ms, rfl, rfl, ha, hb, q⟩ := h
  cases rx
  cases ry
  obtain ⟨its, r1, p1, _⟩ := I.tuple ha
  obtain ⟨its2, r2, p2, _⟩ := I.tuple hb
  have i1 : IntsAre its.toArray.toList ns := intsAre_of r1
  have i2 : IntsAre its2.toArray.toList ms := intsAre_of r2
  exact HT.lt_tupInts p1 p2 i1 i2 hu ⟨.bl (HT.lexLt ns ms), H, I, rfl, q⟩
/-- t + u, t not empty: u empty gives t itself -/
def rCatT (K : PySem.W.Frag) : R2 := fun x y H Q => ∃ a b xs ys, x = .ref a ∧ y = .ref b ∧ SqT K H a xs ∧ SqT K H b ys ∧ xs ≠ [] ∧ xs.length + ys.length ≤ sizeLine ∧
  (ys = [] → Q (.ref a) H) ∧ (ys ≠ [] → ∀ p, H p = none → Q (.ref p) (upd H p (.tup (xs ++ ys))))
theorem Vals.nil_iff {xs : List V} {us : List Value} (r : Vals xs us) : us = [] ↔ xs = [] := by
  cases r with
  | nil => simp
  | cons _ _ => simp
theorem op_catT : OpR X (binaryOp .Add) (rCatT X.K) := by
  intro pins s σ H x y v u Q I rx ry h
  obtain ⟨a, b, xs, ys, rfl, rfl, ha, hb, hx, hz, q1, q2⟩ := h
  cases rx
  cases ry
  obtain ⟨its, r1, p1, _⟩ := I.tuple ha
  obtain ⟨its2, r2, p2, _⟩ := I.tuple hb
  refine HT.cat_tup p1 p2 (fun z => hx (r1.nil_iff.mp z)) (fun z => ⟨.ref a, H, I, rfl, q1 (r2.nil_iff.mp z)⟩) (fun z => ?_) (by rw [← r1.length, ← r2.length]; exact hz)
  refine ⟨.ref s.heap.objs.size, _, I.laid (t' := s.toks) (o := .tup (xs ++ ys)) (fun b ob q => Heap.get?_push_of_some _ q) (Nat.le_refl _) ?_, rfl, q2 (fun w => z (r2.nil_iff.mpr w)) _ (I.hok.fresh (Nat.le_refl _))⟩
  exact ⟨by rw [List.length_append]; exact hz, _, r1.append r2, IsTup.new _ _⟩
/-- tuple(t) -/
theorem call_tupleT : CallR X (.type "tuple") (fun xs H Q => ∃ a ys, xs = [.ref a] ∧ SqT X.K H a ys ∧ Q (.ref a) H) := by
  intro pins s σ H xs us Q I r h
  obtain ⟨a, ys, rfl, ha, q⟩ := h
  obtain ⟨u, rfl, ru⟩ := vals1 r
  cases ru
  obtain ⟨its, _, p1, _⟩ := I.tuple ha
  exact call_tuple_same (items := its.toArray) p1 ⟨.ref a, H, I, rfl, q⟩
end
end L2

namespace L2
open PySem PySem.Spec PyProof.Rows

/-! ### places -/
/-- the place that an index of any sign means -/
def ixN (n : Nat) (i : Int) : Option Nat := if 0 ≤ i then (if i < n then some i.toNat else none) else if -(n : Int) ≤ i then some (i + n).toNat else none
def atI {α : Type} (xs : List α) (i : Int) : Option α := (ixN xs.length i).bind fun j => xs[j]?
theorem ixN_seq {n : Nat} {i : Int} {j : Nat} (h : ixN n i = some j) : seqIndex? i n = some j ∧ j < n ∧ -(n : Int) ≤ i ∧ i < n := by
  unfold ixN at h
  by_cases h0 : 0 ≤ i
  · rw [if_pos h0] at h
    by_cases h1 : i < n
    · rw [if_pos h1] at h
      have e : i.toNat = j := Option.some.inj h
      exact ⟨by rw [seqIndex_of h0 h1, e], by omega, by omega, h1⟩
    · rw [if_neg h1] at h; cases h
  · rw [if_neg h0] at h
    by_cases h1 : -(n : Int) ≤ i
    · rw [if_pos h1] at h
      have e : (i + n).toNat = j := Option.some.inj h
      exact ⟨by rw [seqIndex_neg (by omega) h1, e], by omega, h1, by omega⟩
    · rw [if_neg h1] at h; cases h
theorem atI_get {α : Type} {xs : List α} {i : Int} {v : α} (h : atI xs i = some v) : ∃ j, seqIndex? i xs.length = some j ∧ xs[j]? = some v ∧ j < xs.length ∧ -(xs.length : Int) ≤ i ∧ i < xs.length := by
  unfold atI at h
  cases e : ixN xs.length i with
  | none => rw [e] at h; cases h
  | some j =>
    rw [e] at h
    obtain ⟨h1, h2, h3, h4⟩ := ixN_seq e
    exact ⟨j, h1, h, h2, h3, h4⟩
theorem atI_nat {α : Type} {xs : List α} {j : Nat} {v : α} (h : xs[j]? = some v) : atI xs (j : Int) = some v := by
  have hj : j < xs.length := (List.getElem?_eq_some_iff.mp h).1
  have e : ixN xs.length (j : Int) = some j := by
    unfold ixN
    rw [if_pos (by omega), if_pos (by omega)]; simp
  unfold atI; rw [e]; exact h
theorem atI_last {α : Type} (xs : List α) (v : α) : atI (xs ++ [v]) (-1) = some v := by
  have hl : (xs ++ [v]).length = xs.length + 1 := by simp
  have e : ixN (xs ++ [v]).length (-1) = some xs.length := by
    unfold ixN
    rw [hl, if_neg (by decide), if_pos (by omega)]
    congr 1
    omega
  unfold atI
  rw [e]
  show (xs ++ [v])[xs.length]? = some v
  simp

/-! ### what may be subscripted -/
/-- what stands as an index of a plain subscript -/
def PlainIx (b : Expr) : Prop := ∀ o i, subscripted b false o i = operate [o, i] (getItem o i)
/-- a subscript by values -/
def IxR (X : Cx) (r : R2) : Prop :=
  ∀ (value slice : Expr) (pins : List (Addr × Obj)) (s : Shared) (σ : St) (H : Hp) (x y : V) (v u : Value) (Q : VK), Inv X pins σ H s → RelV x v → RelV y u → r x y H Q →
    subscripted slice false v u = operate [v, u] (getItem v u) → wpAny (model X.prog X.w) X.A (subscriptTail value slice v u) (EP X pins σ Q) X.xe s
/-- a call of a builtin's method by values: the receiver, the arguments -/
def MtR (X : Cx) (id : String) (r : V → List V → Hp → VK → Prop) : Prop :=
  ∀ (pins : List (Addr × Obj)) (s : Shared) (σ : St) (H : Hp) (x : V) (xs : List V) (v : Value) (us : List Value) (Q : VK), Inv X pins σ H s → RelV x v → Vals xs us → r x xs H Q →
    wpAny (model X.prog X.w) X.A (call (.builtin id) (v :: us)) (EP X pins σ Q) X.xe s
section
variable {X : Cx} {a b : Expr} {ta tb : TE} {pos : Pos}
theorem IxR.or {r r' : R2} (h : IxR X r) (h' : IxR X r') : IxR X (fun x y H Q => r x y H Q ∨ r' x y H Q) := by
  intro value slice pins s σ H x y v u Q I rx ry q hs
  rcases q with q | q
  · exact h value slice pins s σ H x y v u Q I rx ry q hs
  · exact h' value slice pins s σ H x y v u Q I rx ry q hs
theorem MtR.or {id : String} {r r' : V → List V → Hp → VK → Prop} (h : MtR X id r) (h' : MtR X id r') : MtR X id (fun x xs H Q => r x xs H Q ∨ r' x xs H Q) := by
  intro pins s σ H x xs v us Q I rx rs q
  rcases q with q | q
  · exact h pins s σ H x xs v us Q I rx rs q
  · exact h' pins s σ H x xs v us Q I rx rs q
/-- a[b] -/
theorem pe_ix {r : R2} (hr : IxR X r) (ha : PE X a ta) (hb : PE X b tb) (hs : PlainIx b) : PE X (.Subscript a b pos) (tOp r ta tb) := by
  intro pins s σ H Q I h
  exact Subscript_ (binT ha hb I h fun v u s2 x y H2 I2 rx ry q => hr a b pins s2 σ H2 x y v u Q I2 rx ry q (hs _ _))

def rIxL (K : PySem.W.Frag) : R2 := fun x y H Q => ∃ p xs i v, x = .ref p ∧ y = .int i ∧ SqL K H p xs ∧ atI xs i = some v ∧ Q v H
def rIxT (K : PySem.W.Frag) : R2 := fun x y H Q => ∃ p xs i v, x = .ref p ∧ y = .int i ∧ SqT K H p xs ∧ atI xs i = some v ∧ Q v H
def rIxS : R2 := fun x y H Q => ∃ z i c, x = .str z ∧ y = .int i ∧ z.length ≤ sizeLine ∧ atI z.cps.toList i = some c ∧ Q (.str ⟨#[c]⟩) H
theorem ix_list : IxR X (rIxL X.K) := by
  intro value slice pins s σ H x y v u Q I rx ry h hs
  obtain ⟨p, xs, i, z, rfl, rfl, hq, he, q⟩ := h
  cases rx
  obtain ⟨t, rfl⟩ := ry
  obtain ⟨its, r, pl, hz⟩ := I.list hq
  obtain ⟨j, h1, h2, h3, h4, h5⟩ := atI_get he
  obtain ⟨w, ew, rw'⟩ := r.get h2
  have hl := r.length
  have hn := line63
  have fin : EP X pins σ Q w s := ⟨z, H, I, rw', q⟩
  by_cases h0 : 0 ≤ i
  · have hj : i.toNat = j := by
      rw [seqIndex_of h0 h5] at h1
      exact Option.some.inj h1
    exact item_listR pl.isList h0 (by omega) (by rw [hj]; simpa using ew) fin hs
  · have hj : (i + (its.toArray.size : Int)).toNat = j := by
      rw [seqIndex_neg (by omega) h4] at h1
      rw [List.size_toArray, ← hl]
      exact Option.some.inj h1
    exact subscriptTail_builtinR (x := w) pl.isList.typeIs slot_list_getitem.lookup
      (wpAny_getItem_list_neg (Q := fun r s' => r = w ∧ EP X pins σ Q r s') pl.isList (by omega) (by rw [List.size_toArray] <;> omega) (by omega) (by rw [hj]; simpa using ew) ⟨rfl, fin⟩) hs
theorem ix_tup : IxR X (rIxT X.K) := by
  intro value slice pins s σ H x y v u Q I rx ry h hs
  obtain ⟨p, xs, i, z, rfl, rfl, hq, he, q⟩ := h
  cases rx
  obtain ⟨t, rfl⟩ := ry
  obtain ⟨its, r, pl, hz⟩ := I.tuple hq
  obtain ⟨j, h1, h2, h3, h4, h5⟩ := atI_get he
  obtain ⟨w, ew, rw'⟩ := r.get h2
  have hl := r.length
  have hn := line63
  have fin : EP X pins σ Q w s := ⟨z, H, I, rw', q⟩
  exact subscriptTail_builtinR (x := w) pl.typeIs slot_tuple_getitem.lookup
    (getItem_tuple (j := j) (Q := fun r s' => r = w ∧ EP X pins σ Q r s') pl (by omega) (by omega) (by rw [List.size_toArray, ← hl]; exact h1) (by simpa using ew) ⟨rfl, fin⟩) hs
theorem ix_str : IxR X rIxS := by
  intro value slice pins s σ H x y v u Q I rx ry h hs
  obtain ⟨z, i, c, rfl, rfl, hz, he, q⟩ := h
  obtain ⟨t, rfl⟩ := rx
  obtain ⟨t', rfl⟩ := ry
  obtain ⟨j, h1, h2, h3, h4, h5⟩ := atI_get he
  have hl : z.cps.toList.length = z.length := by simp [Str.length]
  rw [hl] at h1 h4 h5
  have hn := line63
  exact tail_any (typeIs_str s z t) slot_str_getitem.lookup (getItem_str (c := c) (by
    have e1 : decide (i < -(2 ^ 63 : Int)) = false := decide_eq_false (by omega)
    have e2 : decide (i ≥ 2 ^ 63) = false := decide_eq_false (by omega)
    rw [e1, e2, Bool.or_false]) (by rw [h1]; simpa using h2) ⟨.str ⟨#[c]⟩, H, I.tok _, ⟨_, rfl⟩, q⟩) hs
/-- list, tuple or str -/
def rIx (K : PySem.W.Frag) : R2 := fun x y H Q => rIxL K x y H Q ∨ rIxT K x y H Q ∨ rIxS x y H Q
theorem ix_seq : IxR X (rIx X.K) := ix_list.or (ix_tup.or ix_str)

/-! ### xs[i] = v, any sign -/
/-- the list's object behind a store -/
theorem mapSeq_set (its : List Value) (n j : Nat) (u : Value) : Obj.mapSeq (·.setIfInBounds j u) { cls := .type "list", data := .seq its.toArray n } = { cls := .type "list", data := .seq (its.set j u).toArray n } := by
  simp [Obj.mapSeq]
theorem Inv.lst {pins : List (Addr × Obj)} {σ : St} {H : Hp} {s : Shared} {p : Addr} {xs : List V} (I : Inv X pins σ H s) (h : H p = some (.lst xs)) :
    ∃ (its : List Value) (n : Nat), Vals xs its ∧ s.heap.get? p = some { cls := .type "list", data := .seq its.toArray n } ∧ xs.length ≤ sizeLine := by
  obtain ⟨z, its, n, r, e⟩ := I.hok p _ h
  exact ⟨its, n, r, e, z⟩
/-- the list at p is written by an update of its object -/
theorem Inv.lstUpd {pins : List (Addr × Obj)} {σ : St} {H : Hp} {s : Shared} {p : Addr} {xs ys : List V} {its its' : List Value} {n n' : Nat} {f : Obj → Obj} (I : Inv X pins σ H s) (h : H p = some (.lst xs))
    (ho : s.heap.get? p = some { cls := .type "list", data := .seq its.toArray n }) (hf : f { cls := .type "list", data := .seq its.toArray n } = { cls := .type "list", data := .seq its'.toArray n' }) (r : Vals ys its') (hz : ys.length ≤ sizeLine) (t : Nat) :
    Inv X pins σ (upd H p (.lst ys)) { s with heap := s.heap.update p f, toks := t } := by
  have e : (s.heap.update p f).get? p = some { cls := .type "list", data := .seq its'.toArray n' } := by
    rw [Heap.get?_update_self f ho (by rw [hf] <;> rfl), hf]
  refine I.write (x := p) (e := p) (by rw [h]; trivial) (.inl rfl) (fun b u hb q => (Heap.get?_update_other _ _ (Ne.symm hb)).trans q) ⟨_, e⟩ ?_
  exact ⟨hz, its', n', r, e⟩
def rSetL : V → V → V → Hp → (Hp → Prop) → Prop := fun o i v H Q => ∃ p xs k j, o = .ref p ∧ i = .int k ∧ H p = some (.lst xs) ∧ ixN xs.length k = some j ∧ Q (upd H p (.lst (xs.set j v)))
theorem set_list : PSet X rSetL := by
  intro pins s σ H o i v ov iv u Q I ro ri rv h
  obtain ⟨p, xs, k, j, rfl, rfl, hp, hj, q⟩ := h
  cases ro
  obtain ⟨t, rfl⟩ := ri
  obtain ⟨its, n, r, ho, hz⟩ := I.lst hp
  obtain ⟨h1, h2, h3, h4⟩ := ixN_seq hj
  have hl := r.length
  have hn := line63
  have I' : Inv X pins σ (upd H p (.lst (xs.set j v))) { s with heap := s.heap.update p (Obj.mapSeq (·.setIfInBounds j u)) } :=
    I.lstUpd hp ho (mapSeq_set its n j u) (r.set rv j) (by rw [List.length_set]; exact hz) s.toks
  by_cases h0 : 0 ≤ k
  · have hk : k.toNat = j := by
      rw [seqIndex_of h0 h4] at h1
      exact Option.some.inj h1
    exact PySem.W.ki_setAt ho h0 (by omega) (by rw [List.size_toArray, ← hl]; exact h4) (by rw [hk]; exact ⟨_, I', q⟩)
  · have hk : (k + (its.toArray.size : Int)).toNat = j := by
      rw [seqIndex_neg (by omega) h3] at h1
      rw [List.size_toArray, ← hl]
      exact Option.some.inj h1
    exact PySem.W.ki_setBack ho (by omega) (by rw [List.size_toArray, ← hl]; exact h3) (by omega) (by rw [hk]; exact ⟨_, I', q⟩)

/-! ### slices -/
theorem slice_bounds (lo hi : Option Int) (n : Nat) : (sliceBounds lo hi none n).1 = ((HT.sIx n 0 lo : Nat) : Int) ∧ (sliceBounds lo hi none n).2.1 = ((HT.sIx n n hi : Nat) : Int) ∧ (sliceBounds lo hi none n).2.2 = 1 := by
  refine ⟨?_, ?_, rfl⟩
  · cases lo with
    | none => simp [sliceBounds, HT.sIx]
    | some i =>
      simp only [sliceBounds, HT.sIx, Option.getD_none, show (1 : Int) > 0 by decide, if_true]
      by_cases h : i < 0
      · simp only [h, if_true] <;> omega
      · simp only [h, if_false] <;> omega
  · cases hi with
    | none => simp [sliceBounds, HT.sIx]
    | some i =>
      simp only [sliceBounds, HT.sIx, Option.getD_none, show (1 : Int) > 0 by decide, if_true]
      by_cases h : i < 0
      · simp only [h, if_true] <;> omega
      · simp only [h, if_false] <;> omega
theorem slicePick_cut (its : List Value) (lo hi : Option Int) : slicePick its.toArray lo hi none = ((its.drop (HT.sIx its.length 0 lo)).take (HT.sIx its.length its.length hi - HT.sIx its.length 0 lo)).toArray := by
  obtain ⟨h1, h2, h3⟩ := slice_bounds lo hi its.toArray.size
  unfold slicePick
  rw [h1, h2, h3]
  simp only [sliceRange_one, pick_run, List.size_toArray] <;> rfl
/-- xs[lo:hi] of a list: a new list -/
def rSlL (K : PySem.W.Frag) : V → Option Int → Option Int → Hp → VK → Prop := fun x lo hi H Q => ∃ a xs, x = .ref a ∧ SqL K H a xs ∧ ∀ p, H p = none → Q (.ref p) (upd H p (.lst (cutV xs lo hi)))
theorem sl_list : SlR X (rSlL X.K) := by
  intro pins s σ H x v vl vu lo hi sl Q I rx hs pl pu h
  obtain ⟨a, xs, rfl, hx, q⟩ := h
  cases rx
  obtain ⟨its, r, ht, hz⟩ := I.list hx
  have hlen := r.length
  refine ⟨"list", _, slot_list_getitem.lookup, ht.isList.typeIs, ?_⟩
  refine wpAny_getItem_list_slice ht.isList hs pl pu .none (by simp) ?_ (by rw [List.size_toArray] <;> omega)
  rw [slicePick_cut, ← hlen]
  refine ⟨.ref s.heap.objs.size, _, I.laid (t' := s.toks) (o := .lst (cutV xs lo hi)) (fun b ob q => Heap.get?_push_of_some _ q) (Nat.le_refl _) ?_, rfl, q _ (I.hok.fresh (Nat.le_refl _))⟩
  exact ⟨Nat.le_trans (cutV_length xs lo hi) hz, _, 0, (r.drop (HT.sIx xs.length 0 lo)).take (HT.sIx xs.length xs.length hi - HT.sIx xs.length 0 lo), Heap.get?_push_size _ rfl⟩

/-! ### in, not in: flat items -/
def flatV : V → Bool
  | .non => true
  | .bl _ => true
  | .int _ => true
  | .str _ => true
  | _ => false
/-- == of flat values -/
def eqV : V → V → Bool
  | .non, .non => true
  | .bl a, .bl b => a == b
  | .bl a, .int b => (if a then 1 else 0) == b
  | .int a, .bl b => a == (if b then 1 else 0)
  | .int a, .int b => a == b
  | .str a, .str b => a == b
  | _, _ => false
theorem eqAt_V {A : Around} {s : Shared} {y x : V} {u v : Value} (ry : RelV y u) (rx : RelV x v) (fy : flatV y = true) (fx : flatV x = true) : SeqAt.EqAt A s u v (eqV y x) := by
  cases y with
  | non =>
    cases ry
    cases x with
    | non => cases rx; exact SeqAt.EqAt.same _
    | bl b => cases rx; exact SeqAt.EqAt.none_bool b
    | int b => obtain ⟨t, rfl⟩ := rx; exact SeqAt.EqAt.none_int b t
    | str b => obtain ⟨t, rfl⟩ := rx; exact SeqAt.EqAt.none_str b t
    | _ => exact absurd (show false = true from fx) Bool.false_ne_true
  | bl a =>
    cases ry
    cases x with
    | non => cases rx; exact SeqAt.EqAt.bool_none a
    | bl b => cases rx; exact SeqAt.EqAt.bool_bool a b
    | int b => obtain ⟨t, rfl⟩ := rx; exact SeqAt.EqAt.bool_int a b t
    | str b => obtain ⟨t, rfl⟩ := rx; exact SeqAt.EqAt.bool_str a b t
    | _ => exact absurd (show false = true from fx) Bool.false_ne_true
  | int a =>
    obtain ⟨t', rfl⟩ := ry
    cases x with
    | non => cases rx; exact SeqAt.EqAt.int_none a t'
    | bl b => cases rx; exact SeqAt.EqAt.int_bool a t' b
    | int b => obtain ⟨t, rfl⟩ := rx; exact SeqAt.EqAt.int_int a t' b t
    | str b => obtain ⟨t, rfl⟩ := rx; exact SeqAt.EqAt.int_str a t' b t
    | _ => exact absurd (show false = true from fx) Bool.false_ne_true
  | str a =>
    obtain ⟨t', rfl⟩ := ry
    cases x with
    | non => cases rx; exact SeqAt.EqAt.str_none a t'
    | bl b => cases rx; exact SeqAt.EqAt.str_bool a t' b
    | int b => obtain ⟨t, rfl⟩ := rx; exact SeqAt.EqAt.str_int a t' b t
    | str b => obtain ⟨t, rfl⟩ := rx; exact SeqAt.EqAt.str_str a t' b t
    | _ => exact absurd (show false = true from fx) Bool.false_ne_true
  | _ => exact absurd (show false = true from fy) Bool.false_ne_true
/-- the items' answers, read off the values (a value's own answer does not lean on its token) -/
def eqU (x : V) (u : Value) : Bool := match u with
  | .none => eqV .non x
  | .bool b => eqV (.bl b) x
  | .int i _ => eqV (.int i) x
  | .str z _ => eqV (.str z) x
  | _ => false
theorem eqU_of {x y : V} {u : Value} (r : RelV y u) (f : flatV y = true) : eqU x u = eqV y x := by
  cases y with
  | non => cases r; rfl
  | bl b => cases r; rfl
  | int i => obtain ⟨t, rfl⟩ := r; rfl
  | str z => obtain ⟨t, rfl⟩ := r; rfl
  | _ => exact absurd (show false = true from f) Bool.false_ne_true
theorem any_eqU {x : V} : ∀ {xs : List V} {us : List Value}, Vals xs us → xs.all flatV = true → us.any (eqU x) = xs.any fun y => eqV y x
  | _, _, .nil, _ => rfl
  | y :: xs, u :: us, .cons r t, f => by
    rw [List.all_cons, Bool.and_eq_true] at f
    rw [List.any_cons, List.any_cons, eqU_of r f.1, any_eqU t f.2]
theorem mem_eqAt {A : Around} {s : Shared} {x : V} {v : Value} (rx : RelV x v) (fx : flatV x = true) : ∀ {xs : List V} {us : List Value}, Vals xs us → xs.all flatV = true → ∀ u ∈ us, SeqAt.EqAt A s u v (eqU x u)
  | _, _, .nil, _ => fun u hu => by cases hu
  | y :: xs, u :: us, .cons r t, f => fun u' hu => by
    rw [List.all_cons, Bool.and_eq_true] at f
    rcases List.mem_cons.mp hu with rfl | hu
    · rw [eqU_of r f.1]; exact eqAt_V r rx f.1 fx
    · exact mem_eqAt rx fx t f.2 u' hu
def inV (x : V) (xs : List V) : Bool := xs.any fun y => eqV y x
/-- x in a list or tuple of flat items -/
def rIn (K : PySem.W.Frag) (neg : Bool) : R2 := fun x y H Q => ∃ p xs, y = .ref p ∧ (SqL K H p xs ∨ SqT K H p xs) ∧ flatV x = true ∧ xs.all flatV = true ∧ Q (.bl (if neg then !inV x xs else inV x xs)) H
theorem op_in_seq : OpR X (compareOp .In) (rIn X.K false) := by
  intro pins s σ H x y v u Q I rx ry h
  obtain ⟨p, xs, rfl, hq, fx, fs, q⟩ := h
  cases ry
  rcases hq with hq | hq
  · obtain ⟨its, r, pl, hz⟩ := I.list hq
    refine SeqAt.in_listAt (eqU x) pl.isList (fun w hw => mem_eqAt rx fx r fs w (by simpa using hw)) ⟨.bl _, H, I, rfl, ?_⟩
    rw [show its.toArray.any (eqU x) = its.any (eqU x) by simp, any_eqU r fs]
    exact q
  · obtain ⟨its, r, pl, hz⟩ := I.tuple hq
    refine SeqAt.in_tupleAt (eqU x) pl (fun w hw => mem_eqAt rx fx r fs w (by simpa using hw)) ⟨.bl _, H, I, rfl, ?_⟩
    rw [show its.toArray.any (eqU x) = its.any (eqU x) by simp, any_eqU r fs]
    exact q
theorem op_notIn_seq : OpR X (compareOp .NotIn) (rIn X.K true) := by
  intro pins s σ H x y v u Q I rx ry h
  obtain ⟨p, xs, rfl, hq, fx, fs, q⟩ := h
  cases ry
  rcases hq with hq | hq
  · obtain ⟨its, r, pl, hz⟩ := I.list hq
    refine SeqAt.notIn_listAt (eqU x) pl.isList (fun w hw => mem_eqAt rx fx r fs w (by simpa using hw)) ⟨.bl _, H, I, rfl, ?_⟩
    rw [show its.toArray.any (eqU x) = its.any (eqU x) by simp, any_eqU r fs]
    exact q
  · obtain ⟨its, r, pl, hz⟩ := I.tuple hq
    refine SeqAt.notIn_tupleAt (eqU x) pl (fun w hw => mem_eqAt rx fx r fs w (by simpa using hw)) ⟨.bl _, H, I, rfl, ?_⟩
    rw [show its.toArray.any (eqU x) = its.any (eqU x) by simp, any_eqU r fs]
    exact q
theorem op_notIn_str : OpR X (compareOp .NotIn) (fun x y H Q => ∃ i j, x = .str i ∧ y = .str j ∧ Q (.bl (!(!(Builtin.Str.occurrences j i 0 j.length 1).isEmpty))) H) := by
  intro pins s σ H x y v u Q I rx ry h
  obtain ⟨i, j, rfl, rfl, q⟩ := h
  obtain ⟨t, rfl⟩ := rx
  obtain ⟨t', rfl⟩ := ry
  exact notIn_str ⟨.bl _, H, I, rfl, q⟩

/-! ### len, list(x), tuple(x) of any list or tuple that is read -/
theorem call_len_seq : CallR X (.builtin "len") (fun xs H Q => ∃ p ys, xs = [.ref p] ∧ (SqL X.K H p ys ∨ SqT X.K H p ys) ∧ Q (.int ys.length) H) := by
  intro pins s σ H xs us Q I r h
  obtain ⟨p, ys, rfl, hq, q⟩ := h
  obtain ⟨u, rfl, rx⟩ := vals1 r
  cases rx
  have hn := line63
  rcases hq with hq | hq
  · obtain ⟨its, r', pl, hz⟩ := I.list hq
    have hlen := r'.length
    exact Calls.call_len_list pl.isList (by simp only [List.size_toArray] <;> omega) ⟨.int ys.length, H, I.tok _, ⟨s.toks + 1, by rw [List.size_toArray, hlen]⟩, q⟩
  · obtain ⟨its, r', pl, hz⟩ := I.tuple hq
    have hlen := r'.length
    exact len_tuple pl (by simp only [List.size_toArray] <;> omega) ⟨.int ys.length, H, I.tok _, ⟨s.toks + 1, by rw [List.size_toArray, hlen]⟩, q⟩
theorem call_len_str : CallR X (.builtin "len") (fun xs H Q => ∃ z, xs = [.str z] ∧ z.length ≤ sizeLine ∧ Q (.int z.length) H) := by
  intro pins s σ H xs us Q I r h
  obtain ⟨z, rfl, hz, q⟩ := h
  obtain ⟨u, rfl, t, rfl⟩ := vals1 r
  have hn := line63
  exact len_str (by omega) ⟨.int z.length, H, I.tok _, ⟨_, rfl⟩, q⟩
theorem CallR.or {f : Value} {r r' : List V → Hp → VK → Prop} (h : CallR X f r) (h' : CallR X f r') : CallR X f (fun xs H Q => r xs H Q ∨ r' xs H Q) := by
  intro pins s σ H xs us Q I rs q
  rcases q with q | q
  · exact h pins s σ H xs us Q I rs q
  · exact h' pins s σ H xs us Q I rs q
theorem call_list_of : CallR X (.type "list") (fun xs H Q => ∃ p ys, xs = [.ref p] ∧ (SqL X.K H p ys ∨ SqT X.K H p ys) ∧ ∀ l, H l = none → Q (.ref l) (upd H l (.lst ys))) := by
  intro pins s σ H xs us Q I r h
  obtain ⟨p, ys, rfl, hq, q⟩ := h
  obtain ⟨u, rfl, rx⟩ := vals1 r
  cases rx
  have fin : ∀ (its : List Value), Vals ys its → ys.length ≤ sizeLine → ∀ (h' : Heap) (c' : Nat), (∀ b o', s.heap.get? b = some o' → h'.get? b = some o') →
      h'.get? s.heap.objs.size = some { cls := .type "list", dict := none, data := .seq its.toArray c', slots := #[] } → EP X pins σ Q (.ref s.heap.objs.size) { s with heap := h' } := fun its r' hz h' c' kp e =>
    ⟨.ref s.heap.objs.size, _, I.laid (t' := s.toks) kp (Nat.le_refl _) (show ObjOk X.prog X.w _ h' _ (.lst ys) from ⟨hz, its, c', r', e⟩), rfl, q _ (I.hok.fresh (Nat.le_refl _))⟩
  rcases hq with hq | hq
  · obtain ⟨its, r', pl, hz⟩ := I.list hq
    have hlen := r'.length
    obtain ⟨o, ho, hc, n, hd⟩ := pl.isList
    exact call_list_seq p (.inl rfl) ho hc hd (fun h' c' kp e => fin its r' hz h' c' kp e) (by simp only [List.size_toArray] <;> omega)
  · obtain ⟨its, r', pl, hz⟩ := I.tuple hq
    have hlen := r'.length
    obtain ⟨o, ho, hc, n, hd⟩ := pl
    exact call_list_seq p (.inr rfl) ho hc hd (fun h' c' kp e => fin its r' hz h' c' kp e) (by simp only [List.size_toArray] <;> omega)
theorem call_tuple_of : CallR X (.type "tuple") (fun xs H Q => ∃ p ys, xs = [.ref p] ∧ ((SqL X.K H p ys ∧ ∀ l, H l = none → Q (.ref l) (upd H l (.tup ys))) ∨ (SqT X.K H p ys ∧ Q (.ref p) H))) := by
  intro pins s σ H xs us Q I r h
  obtain ⟨p, ys, rfl, h⟩ := h
  obtain ⟨u, rfl, rx⟩ := vals1 r
  cases rx
  rcases h with ⟨hq, q⟩ | ⟨hq, q⟩
  · obtain ⟨its, r', pl, hz⟩ := I.list hq
    have hlen := r'.length
    refine call_tuple_list pl.isList (fun h' kp => ?_) (by simp only [List.size_toArray] <;> omega)
    have I1 : Inv X pins σ H { s with heap := h' } := I.kept (t' := s.toks) kp
    have I2 : Inv X pins σ (upd H h'.objs.size (.tup ys)) { s with heap := h'.push { cls := .type "tuple", data := .seq its.toArray } } :=
      I1.laid (t' := s.toks) (fun b o e => Heap.get?_push_of_some _ e) (Nat.le_refl _) (show ObjOk X.prog X.w _ _ _ (.tup ys) from ⟨hz, its, r', IsTup.new _ _⟩)
    exact ⟨.ref h'.objs.size, _, I2, rfl, q _ (I1.hok.fresh (Nat.le_refl _))⟩
  · obtain ⟨its, r', pl, hz⟩ := I.tuple hq
    exact call_tuple_same pl ⟨.ref p, H, I, rfl, q⟩

/-! ### the call of a builtin's method: o.m(..) -/
/-- the value is of that builtin type -/
def tyV (K : PySem.W.Frag) (T : String) (x : V) (H : Hp) : Prop := match x with
  | .str _ => T = "str"
  | .int _ => T = "int"
  | .ref p => (T = "list" ∧ ∃ xs, SqL K H p xs) ∨ (T = "tuple" ∧ ∃ o, K.lookup p = some o ∧ o.cls = .type "tuple" ∧ o.dict = none) ∨
      (T = "dict" ∧ ((∃ kvs, H p = some (.dK kvs)) ∨ ∃ kvs, H p = some (.dT kvs))) ∨ (T = "set" ∧ ∃ S n, H p = some (.set S n))
  | _ => False
theorem tyV_is {pins : List (Addr × Obj)} {σ : St} {H : Hp} {s : Shared} {T : String} {x : V} {v : Value} (I : Inv X pins σ H s) (r : RelV x v) (ty : tyV X.K T x H) :
    s.TypeIs v T ∧ ∀ a, v = .ref a → ∃ ob, s.heap.get? a = some ob ∧ ob.dict = none := by
  cases x with
  | str z =>
    obtain ⟨t, rfl⟩ := r
    cases (show T = "str" from ty)
    exact ⟨typeIs_str s z t, fun _ e => nomatch e⟩
  | int i =>
    obtain ⟨t, rfl⟩ := r
    cases (show T = "int" from ty)
    exact ⟨typeIs_int s i t, fun _ e => nomatch e⟩
  | ref p =>
    cases r
    rcases ty with ⟨rfl, xs, hq⟩ | ⟨rfl, o, hk, hc, hd⟩ | ⟨rfl, hk⟩ | ⟨rfl, S, n, hk⟩
    · obtain ⟨its, _, pl, _⟩ := I.list hq
      refine ⟨pl.isList.typeIs, fun a e => ?_⟩
      cases e
      obtain ⟨o, n, e, c, hd, _⟩ := pl
      exact ⟨o, e, hd⟩
    · refine ⟨⟨o, I.kIn p o hk, hc⟩, fun a e => ?_⟩
      cases e
      exact ⟨o, I.kIn _ o hk, hd⟩
    · have z : ∃ o, s.heap.get? p = some o ∧ o.ExactDict := by
        rcases hk with ⟨kvs, hk⟩ | ⟨kvs, hk⟩
        · obtain ⟨_, _, _, _, o, _, _, e, ex, _⟩ := I.hok p _ hk
          exact ⟨o, e, ex⟩
        · obtain ⟨_, _, _, _, o, _, _, e, ex, _⟩ := I.hok p _ hk
          exact ⟨o, e, ex⟩
      obtain ⟨o, e, ex⟩ := z
      refine ⟨⟨o, e, ex.1⟩, fun a e2 => ?_⟩
      cases e2
      exact ⟨o, e, ex.2.1⟩
    · obtain ⟨o, _, _, _, e, ex, _⟩ := I.hok p _ hk
      refine ⟨⟨o, e, ex.1⟩, fun a e2 => ?_⟩
      cases e2
      exact ⟨o, e, ex.2.1⟩
  | _ => exact False.elim ty
def tBM0 (K : PySem.W.Frag) (T : String) (r : V → List V → Hp → VK → Prop) (to : TE) : TE := fun σ H Q => to σ H fun x H1 => tyV K T x H1 ∧ r x [] H1 Q
def tBM (K : PySem.W.Frag) (T : String) (r : V → List V → Hp → VK → Prop) (to : TE) (t : TA) : TE := fun σ H Q => to σ H fun x H1 => tyV K T x H1 ∧ t σ H1 fun xs H2 => r x xs H2 Q
variable {o e : Expr} {es : List Expr} {to : TE} {t : TA} {name : Str} {apos cpos : Pos} {T id : String} {r : V → List V → Hp → VK → Prop}
theorem pe_bm0 (pa : PlainAttrs T) (slot : Slot T name id) (hty : typeOf (.builtin id) = pure (.type "method_descriptor")) (hm : MtR X id r) (ho : PE X o to)
    (hbase : attributeBase o name X.env (eval o X.env) = eval o X.env := by rfl) (hline : (apos.endLine == cpos.line) = true := by rfl) : PE X (.Call (.Attribute o name apos) [] [] cpos) (tBM0 X.K T r to) := by
  intro pins s σ H Q I h
  refine wpAny_Call_method0_late hbase hline (thn (ho pins s σ H _ I h) fun v s1 ⟨x, H1, I1, r1, ty, q1⟩ => ?_)
  obtain ⟨h1, h2⟩ := tyV_is I1 r1 ty
  exact ⟨T, id, pa, slot, hty, h1, h2, Calls.callWith_builtin rfl (PySem.evalArgs_none (hm pins s1 σ H1 x [] v [] Q I1 r1 .nil q1))⟩
theorem pe_bm (pa : PlainAttrs T) (slot : Slot T name id) (hty : typeOf (.builtin id) = pure (.type "method_descriptor")) (hm : MtR X id r) (ho : PE X o to) (ha : PA X (e :: es) t)
    (hbase : attributeBase o name X.env (eval o X.env) = eval o X.env := by rfl)
    (hfew : ((backTo cpos (starEach (e :: es) X.env)).all (fun x => !x.1) && (backToKw cpos (keywordEach [] X.env)).all (fun x => x.1.isSome)
      && decide ((e :: es).length + ([] : List Keyword).length + (if ([] : List Keyword).isEmpty then 0 else 1) < 30)) = true := by rfl)
    (hline : (apos.endLine == cpos.line) = true := by rfl) (hs : starEach (e :: es) X.env = (false, eval e X.env) :: starEach es X.env := by rfl) (hplain : (backTo cpos (starEach es X.env)).any (·.1) = false := by rfl) :
    PE X (.Call (.Attribute o name apos) (e :: es) [] cpos) (tBM X.K T r to t) := by
  intro pins s σ H Q I h
  refine wpAny_Call_method_late hbase hfew hline rfl (thn (ho pins s σ H _ I h) fun v s1 ⟨x, H1, I1, r1, ty, q1⟩ => ?_)
  obtain ⟨h1, h2⟩ := tyV_is I1 r1 ty
  refine ⟨T, id, pa, slot, hty, h1, h2, ?_⟩
  have hA := ha cpos pins s1 σ H1 _ I1 q1
  rw [hs] at hA ⊢
  refine Calls.callWith_builtin (by show (false || (backTo cpos (starEach es X.env)).any (·.1)) = false; rw [hplain] <;> rfl) (Calls.evalArgs_plain ?_)
  exact thn hA fun us s2 ⟨vs, H2, I2, r2, q2⟩ => hm pins s2 σ H2 x vs v us Q I2 r1 r2 q2
/- xs.append(e), list.index on a module's tuple .. are MtR facts of 06m -/
end
end L2

namespace L2
open PySem PySem.Spec PyProof.Rows

def MtM (X : Cx) (id : String) (r : V → List V → Hp → VK → Prop) : Prop :=
  ∀ (pins : List (Addr × Obj)) (s : Shared) (σ : St) (H : Hp) (x : V) (xs : List V) (v : Value) (us : List Value) (Q : VK), Inv X pins σ H s → RelV x v → Vals xs us → r x xs H Q →
    wpAny (model X.prog X.w) X.A (call (.builtin id) (v :: us)) (EP X pins σ Q) X.xe s

/-! ### lists of values -/
theorem Vals.one : ∀ {x : V} {us : List Value}, Vals [x] us → ∃ u, us = [u] ∧ RelV x u
  | _, _, .cons r .nil => ⟨_, rfl, r⟩
theorem Vals.two : ∀ {x y : V} {us : List Value}, Vals [x, y] us → ∃ u v, us = [u, v] ∧ RelV x u ∧ RelV y v
  | _, _, _, .cons r (.cons q .nil) => ⟨_, _, rfl, r, q⟩
theorem Vals.zero : ∀ {us : List Value}, Vals [] us → us = []
  | _, .nil => rfl
theorem Vals.dropLast {xs : List V} {us : List Value} (h : Vals xs us) : Vals xs.dropLast us.dropLast := by
  induction h with
  | nil => exact .nil
  | cons r t ih =>
    cases t with
    | nil => exact .nil
    | cons q t' => exact .cons r ih
theorem Vals.eraseIdx : ∀ {xs : List V} {us : List Value} (i : Nat), Vals xs us → Vals (xs.eraseIdx i) (us.eraseIdx i)
  | _, _, _, .nil => .nil
  | _, _, 0, .cons _ t => t
  | _, _, i + 1, .cons r t => .cons r (Vals.eraseIdx i t)
theorem Vals.reverse {xs : List V} {us : List Value} (h : Vals xs us) : Vals xs.reverse us.reverse := by
  induction h with
  | nil => exact .nil
  | cons r t ih => rw [List.reverse_cons, List.reverse_cons]; exact Vals.append ih (.cons r .nil)
theorem Vals.rep {xs : List V} {us : List Value} (h : Vals xs us) : ∀ k : Nat, Vals (List.replicate k xs).flatten (List.replicate k us).flatten
  | 0 => .nil
  | k + 1 => by
    rw [List.replicate_succ, List.replicate_succ, List.flatten_cons, List.flatten_cons]
    exact Vals.append h (Vals.rep h k)
theorem erase_last {α : Type} (l : List α) : l.eraseIdx (l.length - 1) = l.dropLast := by
  induction l with
  | nil => rfl
  | cons a r ih =>
    cases r with
    | nil => rfl
    | cons b r =>
      have e : (a :: b :: r).length - 1 = ((b :: r).length - 1) + 1 := by
        have h1 : (a :: b :: r).length = r.length + 2 := rfl
        have h2 : (b :: r).length = r.length + 1 := rfl
        omega
      rw [e, List.eraseIdx_cons_succ, ih]
      all_goals rfl
theorem len_erase {α : Type} : ∀ (l : List α) (i : Nat), (l.eraseIdx i).length ≤ l.length
  | [], _ => Nat.le_refl _
  | _ :: _, 0 => Nat.le_succ _
  | _ :: r, i + 1 => Nat.succ_le_succ (len_erase r i)
theorem foldl_rep (its : List Value) : ∀ (k : Nat) (acc : List Value),
    List.foldl (fun x1 x2 => x1 ++ x2) acc.toArray (List.replicate k its.toArray) = (acc ++ (List.replicate k its).flatten).toArray
  | 0, acc => by simp
  | k + 1, acc => by
    have e : acc.toArray ++ its.toArray = (acc ++ its).toArray := by simp
    have e2 : (acc ++ its) ++ (List.replicate k its).flatten = acc ++ (List.replicate (k + 1) its).flatten := by
      rw [List.replicate_succ, List.flatten_cons, List.append_assoc]
    rw [← e2, ← foldl_rep its k (acc ++ its), ← e, List.replicate_succ, List.foldl_cons]

section
variable {X : Cx} {pins : List (Addr × Obj)} {σ : St} {H : Hp} {s : Shared} {l b : Addr} {xs ys zs : List V}

/-! ### the two steps: a tracked list is rewritten, a new list is laid -/
theorem Inv.lset {its its' : List Value} {n : Nat} {f : Array Value → Array Value} {t' : Nat} (I : Inv X pins σ H s) (hH : H l = some (.lst xs))
    (e : s.heap.get? l = some { cls := .type "list", data := .seq its.toArray n }) (hf : f its.toArray = its'.toArray) (hv : Vals ys its') (hz : ys.length ≤ sizeLine) :
    Inv X pins σ (upd H l (.lst ys)) { s with heap := s.heap.update l (Obj.mapSeq f), toks := t' } := by
  have q := PySem.IsL.update e f
  rw [hf] at q
  refine I.write (x := l) (e := l) (by rw [hH]; exact trivial) (.inl rfl) (fun b' u hb hu => (Heap.get?_update_other s.heap (Obj.mapSeq f) (Ne.symm hb)).trans hu) ⟨_, q⟩ ?_
  exact ⟨hz, its', _, hv, q⟩
theorem Inv.lnew {its : List Value} {t' : Nat} (I : Inv X pins σ H s) (hv : Vals ys its) (hz : ys.length ≤ sizeLine) :
    Inv X pins σ (upd H s.heap.objs.size (.lst ys)) { s with heap := s.heap.push { cls := .type "list", data := .seq its.toArray }, toks := t' } :=
  I.laid (fun _ _ q => Heap.get?_push_of_some _ q) (Nat.le_refl _) ⟨hz, its, 0, hv, Heap.get?_push_size _ rfl⟩
theorem Inv.fresh (I : Inv X pins σ H s) : H s.heap.objs.size = none := I.hok.fresh (Nat.le_refl _)
theorem Inv.lstM (I : Inv X pins σ H s) (hH : H l = some (.lst xs)) : xs.length ≤ sizeLine ∧ ∃ (its : List Value) (n : Nat), Vals xs its ∧ xs.length = its.length ∧ s.heap.get? l = some { cls := .type "list", data := .seq its.toArray n } := by
  obtain ⟨z, its, n, r, e⟩ := I.hok l _ hH
  exact ⟨z, its, n, r, r.length, e⟩

theorem notLongL {n : Nat} (h : n ≤ sizeLine) : Builtin.List.listTooLong n = false := by
  unfold Builtin.List.listTooLong
  exact decide_eq_false (by omega)
end

section
variable {X : Cx}

/-! ### methods -/
def rAppend : V → List V → Hp → VK → Prop := fun x vs H Q => ∃ l xs y, x = .ref l ∧ vs = [y] ∧ H l = some (.lst xs) ∧ xs.length < sizeLine ∧ Q .non (upd H l (.lst (xs ++ [y])))
theorem mt_append : MtM X "list.append" rAppend := by
  intro pins s σ H x vs v us Q I rx rv h
  obtain ⟨l, xs, y, rfl, rfl, hH, hz, q⟩ := h
  cases rx
  obtain ⟨u, rfl, ru⟩ := rv.one
  obtain ⟨z, its, n, r, hl, e⟩ := I.lstM hH
  refine call_meets F.slot_list_append ⟨_, e, rfl⟩ F.entry_list_append (F.args_list_append_2 _ _) (PySem.list_append l its.toArray n u (by rw [List.size_toArray]; omega)) ⟨e, ?_⟩
  refine ⟨.non, _, I.lset (its' := its ++ [u]) hH e (by simp) (r.append (.cons ru .nil)) ?_, rfl, q⟩
  rw [List.length_append, List.length_singleton]
  omega

def rExtend : V → List V → Hp → VK → Prop := fun x vs H Q => ∃ l b xs zs, x = .ref l ∧ vs = [.ref b] ∧ H l = some (.lst xs) ∧ H b = some (.lst zs) ∧ xs.length + zs.length ≤ sizeLine ∧ Q .non (upd H l (.lst (xs ++ zs)))
theorem mt_extend : MtM X "list.extend" rExtend := by
  intro pins s σ H x vs v us Q I rx rv h
  obtain ⟨l, b, xs, zs, rfl, rfl, hH, hB, hz, q⟩ := h
  cases rx
  obtain ⟨u, rfl, ru⟩ := rv.one
  cases ru
  obtain ⟨z, its, n, r, hl, e⟩ := I.lstM hH
  obtain ⟨z2, its2, n2, r2, hl2, e2⟩ := I.lstM hB
  have hsz : its.toArray.size + its2.toArray.size ≤ sizeLine := by rw [List.size_toArray, List.size_toArray]; omega
  have hlong : ¬ (!its.toArray.isEmpty && Builtin.List.listTooLong (its.toArray.size + its2.toArray.size)) = true := by
    rw [notLongL hsz, Bool.and_false]
    exact Bool.false_ne_true
  refine call_meets F.slot_list_extend ⟨_, e, rfl⟩ F.entry_list_extend (F.args_list_extend_2 _ _)
    (AutoSeq1.list_extend_list_list_0 l its.toArray n b its2.toArray n2 hlong (by rw [List.size_toArray]; omega) (by omega)) ⟨e, e2, ?_⟩
  refine ⟨.non, _, I.lset (its' := its ++ its2) hH e (by simp) (r.append r2) ?_, rfl, q⟩
  rw [List.length_append]
  omega

def rPop : V → List V → Hp → VK → Prop := fun x vs H Q => ∃ l xs y, x = .ref l ∧ vs = [] ∧ H l = some (.lst xs) ∧ xs[xs.length - 1]? = some y ∧ Q y (upd H l (.lst xs.dropLast))
theorem mt_pop : MtM X "list.pop" rPop := by
  intro pins s σ H x vs v us Q I rx rv h
  obtain ⟨l, xs, y, rfl, rfl, hH, hy, q⟩ := h
  cases rx
  have hus := rv.zero
  subst hus
  obtain ⟨z, its, n, r, hl, e⟩ := I.lstM hH
  obtain ⟨u, hu, ru⟩ := r.get hy
  have hy' : its.toArray[its.toArray.size - 1]? = some u := by
    show its.toArray[its.length - 1]? = some u
    rw [← Array.getElem?_toList, ← hl]
    exact hu
  refine call_meets F.slot_list_pop ⟨_, e, rfl⟩ F.entry_list_pop (F.args_list_pop_1 _) (MeetsSeq.list_pop_last l its.toArray n u hy' (by rw [List.size_toArray]; omega)) ⟨e, ?_⟩
  refine ⟨y, _, I.lset (its' := its.dropLast) hH e ?_ r.dropLast ?_, ru, q⟩
  · show its.toArray.eraseIdxIfInBounds (its.toArray.size - 1) = its.dropLast.toArray
    rw [List.size_toArray, List.eraseIdxIfInBounds_toArray, erase_last]
  · rw [List.length_dropLast]
    omega

def rPopAt : V → List V → Hp → VK → Prop := fun x vs H Q => ∃ l xs i k y, x = .ref l ∧ vs = [.int i] ∧ H l = some (.lst xs) ∧ -(2 ^ 63) ≤ i ∧ i < 2 ^ 63 ∧ seqIndex? i xs.length = some k ∧ xs[k]? = some y ∧ Q y (upd H l (.lst (xs.eraseIdx k)))
theorem mt_popAt : MtM X "list.pop" rPopAt := by
  intro pins s σ H x vs v us Q I rx rv h
  obtain ⟨l, xs, i, k, y, rfl, rfl, hH, h1, h2, hk, hy, q⟩ := h
  cases rx
  obtain ⟨u, rfl, ru⟩ := rv.one
  obtain ⟨t, rfl⟩ := ru
  obtain ⟨z, its, n, r, hl, e⟩ := I.lstM hH
  obtain ⟨w, hw, rw'⟩ := r.get hy
  refine call_meets F.slot_list_pop ⟨_, e, rfl⟩ F.entry_list_pop (F.args_list_pop_2 _ _)
    (MeetsSeq.list_pop_at l its.toArray n i t k w (fitsIndex_both h1 h2) (by rw [List.size_toArray, ← hl]; exact hk) (by rw [← Array.getElem?_toList]; exact hw) (by rw [List.size_toArray]; omega)) ⟨e, ?_⟩
  refine ⟨y, _, I.lset (its' := its.eraseIdx k) hH e ?_ (r.eraseIdx k) ?_, rw', q⟩
  · show its.toArray.eraseIdxIfInBounds k = (its.eraseIdx k).toArray
    rw [List.eraseIdxIfInBounds_toArray]
  · have := len_erase xs k
    omega

def rReverse : V → List V → Hp → VK → Prop := fun x vs H Q => ∃ l xs, x = .ref l ∧ vs = [] ∧ H l = some (.lst xs) ∧ Q .non (upd H l (.lst xs.reverse))
theorem mt_reverse : MtM X "list.reverse" rReverse := by
  intro pins s σ H x vs v us Q I rx rv h
  obtain ⟨l, xs, rfl, rfl, hH, q⟩ := h
  cases rx
  have hus := rv.zero
  subst hus
  obtain ⟨z, its, n, r, hl, e⟩ := I.lstM hH
  refine call_meets F.slot_list_reverse ⟨_, e, rfl⟩ F.entry_list_reverse (F.args_list_reverse_1 _) (AutoSeq1.list_reverse_list_0 l its.toArray n (by rw [List.size_toArray]; omega)) ⟨e, ?_⟩
  refine ⟨.non, _, I.lset (its' := its.reverse) hH e (by simp) r.reverse ?_, rfl, q⟩
  rw [List.length_reverse]
  omega

def rClear : V → List V → Hp → VK → Prop := fun x vs H Q => ∃ l xs, x = .ref l ∧ vs = [] ∧ H l = some (.lst xs) ∧ Q .non (upd H l (.lst []))
theorem mt_clear : MtM X "list.clear" rClear := by
  intro pins s σ H x vs v us Q I rx rv h
  obtain ⟨l, xs, rfl, rfl, hH, q⟩ := h
  cases rx
  have hus := rv.zero
  subst hus
  obtain ⟨z, its, n, r, hl, e⟩ := I.lstM hH
  refine call_meets F.slot_list_clear ⟨_, e, rfl⟩ F.entry_list_clear (F.args_list_clear_1 _) (AutoSeq1.list_clear_list_0 l its.toArray n (by rw [List.size_toArray]; omega)) ⟨e, ?_⟩
  exact ⟨.non, _, I.lset (its' := []) (ys := []) hH e rfl .nil (Nat.zero_le _), rfl, q⟩

/-! ### list + list, list += list, list * int -/
def rCat : R2 := fun x y H Q => ∃ l b xs zs, x = .ref l ∧ y = .ref b ∧ H l = some (.lst xs) ∧ H b = some (.lst zs) ∧ xs.length + zs.length ≤ sizeLine ∧ ∀ p, H p = none → Q (.ref p) (upd H p (.lst (xs ++ zs)))
theorem op_cat : OpR X (binaryOp .Add) rCat := by
  intro pins s σ H x y v u Q I rx ry h
  obtain ⟨l, b, xs, zs, rfl, rfl, hH, hB, hz, q⟩ := h
  cases rx
  cases ry
  obtain ⟨z, its, n, r, hl, e⟩ := I.lstM hH
  obtain ⟨z2, its2, n2, r2, hl2, e2⟩ := I.lstM hB
  refine PySem.P.add_list e e2 ?_ (by rw [List.size_toArray, List.size_toArray]; omega)
  have ea : its.toArray ++ its2.toArray = (its ++ its2).toArray := by simp
  rw [ea]
  exact ⟨.ref _, _, I.lnew (t' := s.toks) (r.append r2) (by rw [List.length_append]; omega), rfl, q _ I.fresh⟩
/-- a list times an int (a negative one is nothing) -/
def rRep : R2 := fun x y H Q => ∃ l k xs, x = .ref l ∧ y = .int k ∧ H l = some (.lst xs) ∧ -(2 ^ 63) ≤ k ∧ k < 2 ^ 63 ∧ xs.length * k.toNat ≤ sizeLine ∧
  ∀ p, H p = none → Q (.ref p) (upd H p (.lst (List.replicate k.toNat xs).flatten))
theorem len_rep {α : Type} (xs : List α) (k : Nat) : (List.replicate k xs).flatten.length = k * xs.length := by
  induction k with
  | zero => simp
  | succ k ih => rw [List.replicate_succ, List.flatten_cons, List.length_append, ih, Nat.succ_mul, Nat.add_comm]
theorem op_rep : OpR X (binaryOp .Mult) rRep := by
  intro pins s σ H x y v u Q I rx ry h
  obtain ⟨l, k, xs, rfl, rfl, hH, h1, h2, hz, q⟩ := h
  cases rx
  obtain ⟨t, rfl⟩ := ry
  obtain ⟨z, its, n, r, hl, e⟩ := I.lstM hH
  have hlen : its.toArray.size * k.toNat ≤ sizeLine := by rw [List.size_toArray, ← hl]; exact hz
  have hcap : ¬ its.toArray.size * k.toNat > (2 ^ 63 - 1) / 8 := by
    have : (sizeLine : Nat) ≤ (2 ^ 63 - 1) / 8 := by decide
    omega
  have hfit : ¬ (!Builtin.List.listFitsIndex k) = true := by
    rw [fitsIndex_both h1 h2]
    exact Bool.false_ne_true
  have hlong : ¬ Builtin.List.listTooLong (its.toArray.size * k.toNat) = true := by
    rw [notLongL hlen]
    exact Bool.false_ne_true
  have hnew : List.foldl (fun x1 x2 => x1 ++ x2) #[] (List.replicate (if its.toArray.isEmpty = true then 0 else k.toNat) its.toArray) = (List.replicate k.toNat its).flatten.toArray := by
    have f0 : ∀ m : Nat, List.foldl (fun x1 x2 => x1 ++ x2) #[] (List.replicate m its.toArray) = (List.replicate m its).flatten.toArray := fun m => by
      have := foldl_rep its m []
      rw [List.nil_append] at this
      exact this
    rw [f0]
    cases its with
    | nil => simp
    | cons a r' => rw [if_neg (by simp)]
  refine wpAny_binaryOp_repeat_ref (T := "list") (U := "int") (by decide) ⟨_, e, rfl⟩ (fun s' => typeIs_int s' k t) noFill_list_mul F.fills_int_mul F.slot_int_rmul repeat_list F.slot_int_index.lookup
    (call_meets F.slot_int_rmul (typeIs_int s k t) F.entry_int_rmul (F.args_int_rmul_2 _ _) (int___rmul___int_list k t l its.toArray n)
      ⟨e, rfl, ⟨_, e, rfl⟩, call_meets F.slot_list_mul ⟨_, e, rfl⟩ F.entry_list_mul (F.args_list_mul_2 _ _) (AutoListH.list___mul___list_int_3 l its.toArray n k t hfit hcap hlong) ⟨e, ?_⟩⟩)
  rw [hnew]
  exact ⟨.ref _, _, I.lnew (t' := s.toks) (r.rep k.toNat) (by rw [len_rep, Nat.mul_comm]; exact hz), rfl, q _ I.fresh⟩

/-! ### del xs[i] -/
theorem del_list {pins : List (Addr × Obj)} {s : Shared} {σ : St} {H : Hp} {l : Addr} {xs : List V} {i : Int} {t : Tok} {k : Nat} {Q : Unit → Shared → Prop} (I : Inv X pins σ H s) (hH : H l = some (.lst xs))
    (h1 : -(2 ^ 63) ≤ i) (h2 : i < 2 ^ 63) (hk : seqIndex? i xs.length = some k) (h : ∀ s', Inv X pins σ (upd H l (.lst (xs.eraseIdx k))) s' → Q () s') :
    wpAny (model X.prog X.w) X.A (delItem (.ref l) (.int i t)) Q X.xe s := by
  obtain ⟨z, its, n, r, hl, e⟩ := I.lstM hH
  refine PySem.P.delItem_list (k := k) e (fitsIndex_both h1 h2) (by rw [List.size_toArray, ← hl]; exact hk) (h _ ?_) (by rw [List.size_toArray]; omega)
  refine I.lset (its' := its.eraseIdx k) (t' := s.toks) hH e ?_ (r.eraseIdx k) ?_
  · show its.toArray.eraseIdxIfInBounds k = (its.eraseIdx k).toArray
    rw [List.eraseIdxIfInBounds_toArray]
  · have := len_erase xs k
    omega
end

/-! ### xs[a:b] = ys -/
section
variable {prog : Program} {w : World} {A : Around} {E : Value → Shared → Prop} {s : Shared}
theorem splice_eq (its its2 : List Value) (a c : Nat) : its.toArray.extract 0 a ++ its2.toArray ++ its.toArray.extract c its.toArray.size = (its.take a ++ its2 ++ its.drop c).toArray := by
  apply Array.toList_inj.mp
  first
    | (simp
       exact List.take_of_length_le (by simp))
    | simp [List.take_of_length_le]
    | simp
theorem bounds_run {a c n : Nat} (hac : a ≤ c) (hc : c ≤ n) : sliceBounds (some (a : Int)) (some (c : Int)) none n = ((a : Int), (c : Int), 1) := by
  simp only [sliceBounds, Option.getD_none]
  have h1 : ¬ ((a : Int) < 0) := by omega
  have h2 : ¬ ((c : Int) < 0) := by omega
  simp only [h1, h2, if_false, show (1 : Int) > 0 by decide, if_true]
  congr 1
  · omega
  · congr 1; omega
set_option maxRecDepth 100000 in
/-- list.__setitem__ with a slice of step one and another list -/
theorem setItem_slice {l b sl : Addr} {items new : Array Value} {n n2 : Nat} {vl vu : Value} {a c : Nat} {Q : Unit → Shared → Prop}
    (e : s.heap.get? l = some { cls := .type "list", data := .seq items n }) (e2 : s.heap.get? b = some { cls := .type "list", data := .seq new n2 }) (hne : l ≠ b)
    (hs : s.heap.IsSliceOf sl vl vu .none) (pl : IsPart vl (some (a : Int))) (pu : IsPart vu (some (c : Int))) (hac : a ≤ c) (hc : c ≤ items.size)
    (hsz : items.size + new.size ≤ sizeLine) (h : Q () { s with heap := s.heap.update l (Obj.mapSeq fun xs => xs.extract 0 a ++ new ++ xs.extract c xs.size) }) :
    wpAny (model prog w) A (setItem (.ref l) (.ref sl) (.ref b)) Q E s := by
  have hl : s.heap.IsList l items := PySem.IsL.isList e
  have hb : s.heap.IsList b new := PySem.IsL.isList e2
  obtain ⟨os, hos, hcs, hds⟩ := id hs
  have hTs : s.TypeIs (.ref sl) "slice" := ⟨os, hos, hcs⟩
  have hstep : ¬ ((rawPart none == rawInt 0) = true) := Bool.false_ne_true
  have hsame : Builtin.List.listSameRef (.ref l) (.ref b) = false := by
    unfold Builtin.List.listSameRef
    exact beq_eq_false_iff_ne.mpr hne
  have hmax : (max (a : Int) (c : Int)).toNat = c := by omega
  have hz' : ((fun xs : Array Value => xs.extract 0 a ++ new ++ xs.extract c xs.size) items).size ≤ sizeLine + 1 := by
    simp only [Array.size_append, Array.size_extract]
    omega
  unfold setItem
  try with_reducible refine wpAny_holding ?_
  first | refine wpAny_bind (wpAny_pure ?_) | skip
  refine wpAny_bind (wpAny_sequenceKey hl.typeIs (by decide) ?_)
  refine wpAny_bind (wpAny_callSpecial?_slot (name := Str.ofString "__setitem__") hl.typeIs slot_list_setitem
    (wpAny_call_entry slot_list_setitem hl.typeIs entry_list_setitem ?_ (args_list_setitem _ _ _)))
  show wpAny _ _ (Builtin.List.listSubscript? (.ref sl) >>= _) _ _ s
  refine wpAny_bind ?_
  unfold Builtin.List.listSubscript?
  refine wpAny_bind (wpAny_specialOf hTs slice_no_index ?_)
  simp only [Option.isNone_none, if_true]
  refine wpAny_pure ?_
  show wpAny _ _ (typeOf (.ref sl) >>= _) _ _ s
  refine wpAny_bind (wpAny_typeOf hTs ?_)
  first
    | rw [if_neg (by decide)]
    | refine PySem.W.KFB.if_not (by decide) ?_
  rw [listSliceParts_eq]
  refine wpAny_bind (wpAny_bind (wpAny_field hos hds (x := .none) rfl (wpAny_bind (wpAny_listPart .none ?_))))
  rw [if_neg hstep]
  refine wpAny_bind (wpAny_field hos hds (x := vl) rfl (wpAny_bind (wpAny_listPart pl ?_)))
  refine wpAny_bind (wpAny_field hos hds (x := vu) rfl (wpAny_bind (wpAny_listPart pu (wpAny_pure ?_))))
  first
    | simp only [hsame, Bool.false_eq_true, if_false]
    | refine PySem.W.KFB.if_not hsame ?_
    | (dsimp only
       rw [if_neg (by rw [hsame]; exact Bool.false_ne_true)])
  refine wpAny_bind (m := Builtin.List.listAllItems (.ref b) "must assign iterable to extended slice") ?_
  unfold Builtin.List.listAllItems
  refine wpAny_bind (wpAny_typeOf hb.typeIs ?_)
  first
    | refine PySem.W.KFB.if_so (by decide) ?_
    | rw [if_pos (by decide)]
    | simp only [beq_self_eq_true, Bool.true_or, if_true]
  unfold Builtin.List.listItems
  refine wpAny_bind (wpAny_seqItems e2 rfl (wpAny_pure ?_))
  refine wpAny_bind (wpAny_bind (wpAny_seqItems e rfl (wpAny_pure ?_)))
  refine wpAny_bind (wpAny_of_eq ((sliceIndices_raw (some (a : Int)) (some (c : Int)) none items.size (by simp)).trans (congrArg (pure : Int × Int × Int → Sem (Int × Int × Int)) (bounds_run hac hc))) ?_)
  show wpAny _ _ (if ((1 : Int) == 1) = true then _ else _) _ _ s
  rw [if_pos (by decide)]
  refine wpAny_bind (wpAny_rule ?_)
  first
    | simp only [notLongL hsz, Bool.false_eq_true, if_false]
    | refine PySem.W.KFB.if_not (notLongL hsz) ?_
  first | refine wpAny_bind (wpAny_pure ?_) | skip
  show wpAny _ _ (updateSeq l (fun xs => xs.extract 0 ((a : Int)).toNat ++ new ++ xs.extract (max (a : Int) (c : Int)).toNat xs.size) >>= _) _ _ s
  rw [hmax, Int.toNat_natCast]
  refine wpAny_bind (wpAny_updateSeq (hz := Nat.le_trans (Nat.le_add_right _ _) hsz) (_hz' := hz') e rfl ?_)
  refine wpAny_bind (wpAny_letGo ?_)
  first
    | exact wpAny_bind (wpAny_pure (wpAny_pure ⟨.none, rfl, wpAny_pure h⟩))
    | exact wpAny_pure ⟨.none, rfl, wpAny_pure h⟩
end

section
variable {X : Cx}
/-- xs[a:c] = ys of another list, at the value level: sl is the slice object that was just made -/
theorem set_slice {pins : List (Addr × Obj)} {s : Shared} {σ : St} {H : Hp} {l b sl : Addr} {xs ys : List V} {a c : Int} {vl vu : Value} {Q : Unit → Shared → Prop} (I : Inv X pins σ H s)
    (hH : H l = some (.lst xs)) (hB : H b = some (.lst ys)) (hne : l ≠ b) (hs : s.heap.IsSliceOf sl vl vu .none) (ra : RelV (.int a) vl) (rc : RelV (.int c) vu) (h0 : 0 ≤ a) (hac : a ≤ c) (hc : c ≤ xs.length)
    (hz : xs.length + ys.length ≤ sizeLine) (h : ∀ s', Inv X pins σ (upd H l (.lst (xs.take a.toNat ++ ys ++ xs.drop c.toNat))) s' → Q () s') :
    wpAny (model X.prog X.w) X.A (setItem (.ref l) (.ref sl) (.ref b)) Q X.xe s := by
  obtain ⟨ta, rfl⟩ := ra
  obtain ⟨tc, rfl⟩ := rc
  obtain ⟨z, its, n, r, hl, e⟩ := I.lstM hH
  obtain ⟨z2, its2, n2, r2, hl2, e2⟩ := I.lstM hB
  obtain ⟨a', rfl⟩ := Int.eq_ofNat_of_zero_le h0
  obtain ⟨c', rfl⟩ := Int.eq_ofNat_of_zero_le (Int.le_trans h0 hac)
  simp only [Int.toNat_natCast] at h
  refine setItem_slice (a := a') (c := c') e e2 hne hs (.int _ _) (.int _ _) (by omega) (by rw [List.size_toArray]; omega) (by rw [List.size_toArray, List.size_toArray]; omega) (h _ ?_)
  refine I.lset (its' := its.take a' ++ its2 ++ its.drop c') (t' := s.toks) hH e ?_ (Vals.append (Vals.append (r.take _) r2) (r.drop _)) ?_
  · exact splice_eq its its2 a' c'
  · rw [List.length_append, List.length_append, List.length_take, List.length_drop]
    omega
end
end L2

namespace L2
open PySem PySem.Spec PyProof.Rows

theorem Vals.ints : ∀ {ns : List Int} {us : List Value}, Vals (ns.map V.int) us → IntsAre us ns
  | [], us, h => by
    rw [List.map_nil] at h
    cases h
    exact IntsAre.nil
  | n :: ns, us, h => by
    rw [List.map_cons] at h
    cases h with
    | cons r t =>
      obtain ⟨k, rfl⟩ := r
      exact IntsAre.cons n k (Vals.ints t)
theorem vals_of_ints : ∀ {us : List Value} {ns : List Int}, IntsAre us ns → Vals (ns.map V.int) us
  | _, _, .nil => by rw [List.map_nil]; exact Paired.nil
  | _, _, .cons n t h => by rw [List.map_cons]; exact Paired.cons (show RelV (V.int n) (Value.int n t) from ⟨t, rfl⟩) (vals_of_ints h)
theorem Vals.strs : ∀ {xs : List Str} {us : List Value}, Vals (xs.map V.str) us → StrsAre us xs
  | [], us, h => by
    rw [List.map_nil] at h
    cases h
    exact StrsAre.nil
  | x :: xs, us, h => by
    rw [List.map_cons] at h
    cases h with
    | cons r t =>
      obtain ⟨k, rfl⟩ := r
      exact StrsAre.cons x k (Vals.strs t)
theorem vals_of_strs : ∀ {us : List Value} {xs : List Str}, StrsAre us xs → Vals (xs.map V.str) us
  | _, _, .nil => by rw [List.map_nil]; exact Paired.nil
  | _, _, .cons x t h => by rw [List.map_cons]; exact Paired.cons (show RelV (V.str x) (Value.str x t) from ⟨t, rfl⟩) (vals_of_strs h)
theorem Vals.bls : ∀ {bs : List Bool} {us : List Value}, Vals (bs.map V.bl) us → us = bs.map Value.bool
  | [], us, h => by
    rw [List.map_nil] at h
    cases h
    rfl
  | b :: bs, us, h => by
    rw [List.map_cons] at h
    cases h with
    | cons r t =>
      cases r
      rw [Vals.bls t, List.map_cons]
theorem Vals.ref1 {a : Addr} {us : List Value} (r : Vals [V.ref a] us) : us = [Value.ref a] := by
  cases r with
  | cons r t =>
    cases t
    cases r
    rfl
theorem Vals.int2 {i j : Int} {us : List Value} (r : Vals [V.int i, V.int j] us) : ∃ t u, us = [Value.int i t, Value.int j u] := by
  cases r with
  | cons r t =>
    cases t with
    | cons r2 t2 =>
      cases t2
      obtain ⟨t, rfl⟩ := r
      obtain ⟨u, rfl⟩ := r2
      exact ⟨t, u, rfl⟩

/-! ### the library's walks over a list of ints, kept objects alone -/
section
variable {prog : Program} {w : World} {A : Around} {E : Value → Shared → Prop} {s : Shared} {l : Addr} {its : List Value} {ns : List Int} {Q : Value → Shared → Prop}
theorem sum_raw (hh : A.handled = none) (hl : s.heap.IsList l its.toArray) (hi : IntsAre its ns)
    (h : ∀ h' tk t', (∀ b o, s.heap.get? b = some o → h'.get? b = some o) → Q (.int ns.sum t') { s with heap := h', toks := tk }) : wpAny (model prog w) A (call (.builtin "sum") [.ref l]) Q E s := by
  obtain ⟨xs, e⟩ := hi.allInts.items
  have hn : numsOf (intItems xs).toList = ns := by rw [← e]; exact hi.numsOf
  rw [nums_intItems] at hn
  rw [e] at hl
  refine PySem.sum_intListG hh hl fun h' tk t' hk => ?_
  have := h h' tk t' hk
  rw [preSum_eq, List.take_of_length_le (by simp), hn]; exact this
theorem max_raw (hh : A.handled = none) (hl : s.heap.IsList l its.toArray) (hi : IntsAre its ns) (hne : 0 < ns.length)
    (h : ∀ h' tk M t', (∀ b o, s.heap.get? b = some o → h'.get? b = some o) → M ∈ ns → (∀ a, a ∈ ns → a ≤ M) → Q (.int M t') { s with heap := h', toks := tk }) : wpAny (model prog w) A (call (.builtin "max") [.ref l]) Q E s := by
  obtain ⟨xs, e⟩ := hi.allInts.items
  have hn : numsOf (intItems xs).toList = ns := by rw [← e]; exact hi.numsOf
  rw [nums_intItems] at hn
  subst hn
  rw [e] at hl
  have hsz : 0 < xs.size := by simpa using hne
  refine PySem.max_intList hh hl hsz fun v h' tk hv hk => ?_
  obtain ⟨t, rfl⟩ := intItems_at hv
  obtain ⟨h1, h2⟩ := argBest_gt (numAt xs) (xs.size - 1)
  refine h h' tk _ t hk ?_ fun a ha => ?_
  · rw [numAt_eq]; exact PySem.getD_mem (by rw [List.length_map, Array.length_toList]; omega)
  · obtain ⟨j, hj, rfl⟩ := mem_getD ha
    rw [List.length_map, Array.length_toList] at hj
    rw [← numAt_eq]; exact h2 j (by omega)
theorem min_raw (hh : A.handled = none) (hl : s.heap.IsList l its.toArray) (hi : IntsAre its ns) (hne : 0 < ns.length)
    (h : ∀ h' tk M t', (∀ b o, s.heap.get? b = some o → h'.get? b = some o) → M ∈ ns → (∀ a, a ∈ ns → M ≤ a) → Q (.int M t') { s with heap := h', toks := tk }) : wpAny (model prog w) A (call (.builtin "min") [.ref l]) Q E s := by
  obtain ⟨xs, e⟩ := hi.allInts.items
  have hn : numsOf (intItems xs).toList = ns := by rw [← e]; exact hi.numsOf
  rw [nums_intItems] at hn
  subst hn
  rw [e] at hl
  have hsz : 0 < xs.size := by simpa using hne
  refine PySem.min_intList hh hl hsz fun v h' tk hv hk => ?_
  obtain ⟨t, rfl⟩ := intItems_at hv
  obtain ⟨h1, h2⟩ := argBest_lt (numAt xs) (xs.size - 1)
  refine h h' tk _ t hk ?_ fun a ha => ?_
  · rw [numAt_eq]; exact PySem.getD_mem (by rw [List.length_map, Array.length_toList]; omega)
  · obtain ⟨j, hj, rfl⟩ := mem_getD ha
    rw [List.length_map, Array.length_toList] at hj
    rw [← numAt_eq]; exact h2 j (by omega)
end

/-! ### the calls, by values (CallR of 03t; MtR of 06l) -/
section
variable {X : Cx}
/-- sum(xs) of a list of ints -/
def rSum (K : PySem.W.Frag) : List V → Hp → VK → Prop := fun vs H Q => ∃ (a : Addr) (ns : List Int), vs = [V.ref a] ∧ SqL K H a (ns.map V.int) ∧ Q (.int ns.sum) H
/-- max(xs), min(xs) of a list of ints -/
def rMax (K : PySem.W.Frag) : List V → Hp → VK → Prop := fun vs H Q => ∃ (a : Addr) (ns : List Int), vs = [V.ref a] ∧ SqL K H a (ns.map V.int) ∧ 0 < ns.length ∧ ∀ m, m ∈ ns → (∀ y, y ∈ ns → y ≤ m) → Q (.int m) H
def rMin (K : PySem.W.Frag) : List V → Hp → VK → Prop := fun vs H Q => ∃ (a : Addr) (ns : List Int), vs = [V.ref a] ∧ SqL K H a (ns.map V.int) ∧ 0 < ns.length ∧ ∀ m, m ∈ ns → (∀ y, y ∈ ns → m ≤ y) → Q (.int m) H
theorem cr_sum (hc : X.calm = true) : CallR X (.builtin "sum") (rSum X.K) := by
  intro pins s σ H vs us Q I r h
  obtain ⟨a, ns, rfl, hs, q⟩ := h
  obtain ⟨its, rv, hl, _⟩ := I.list hs
  rw [Vals.ref1 r]
  exact sum_raw (I.ok.hd hc) hl.isList rv.ints fun h' tk t' hk => ⟨.int _, H, I.kept hk, ⟨_, rfl⟩, q⟩
theorem cr_max (hc : X.calm = true) : CallR X (.builtin "max") (rMax X.K) := by
  intro pins s σ H vs us Q I r h
  obtain ⟨a, ns, rfl, hs, hne, q⟩ := h
  obtain ⟨its, rv, hl, _⟩ := I.list hs
  rw [Vals.ref1 r]
  exact max_raw (I.ok.hd hc) hl.isList rv.ints hne fun h' tk m t' hk h1 h2 => ⟨.int _, H, I.kept hk, ⟨_, rfl⟩, q m h1 h2⟩
theorem cr_min (hc : X.calm = true) : CallR X (.builtin "min") (rMin X.K) := by
  intro pins s σ H vs us Q I r h
  obtain ⟨a, ns, rfl, hs, hne, q⟩ := h
  obtain ⟨its, rv, hl, _⟩ := I.list hs
  rw [Vals.ref1 r]
  exact min_raw (I.ok.hd hc) hl.isList rv.ints hne fun h' tk m t' hk h1 h2 => ⟨.int _, H, I.kept hk, ⟨_, rfl⟩, q m h1 h2⟩

/-! sorted, sort (fewer than 64 items: the library's own bound) -/
def rSorted (K : PySem.W.Frag) : List V → Hp → VK → Prop := fun vs H Q => ∃ (a : Addr) (ns : List Int), vs = [V.ref a] ∧ SqL K H a (ns.map V.int) ∧ ns.length < 64 ∧
  ∀ (ns' : List Int) (p : Addr), ns'.Perm ns → ns'.Pairwise (· ≤ ·) → H p = none → Q (.ref p) (upd H p (.lst (ns'.map V.int)))
def rSortedS (K : PySem.W.Frag) : List V → Hp → VK → Prop := fun vs H Q => ∃ (a : Addr) (xs : List Str), vs = [V.ref a] ∧ SqL K H a (xs.map V.str) ∧ xs.length < 64 ∧
  ∀ (ys : List Str) (p : Addr), ys.Perm xs → sortedS ys = true → H p = none → Q (.ref p) (upd H p (.lst (ys.map V.str)))
theorem small64 {n : Nat} (h : n < 64) : n ≤ sizeLine := by rw [sizeLine_eq]; omega
theorem cr_sorted : CallR X (.builtin "sorted") (rSorted X.K) := by
  intro pins s σ H vs us Q I r h
  obtain ⟨a, ns, rfl, hs, h64, q⟩ := h
  obtain ⟨its, rv, hl, _⟩ := I.list hs
  rw [Vals.ref1 r]
  have hi := rv.ints
  refine PyProof.Rows.sorted_ints hl.isList hi (by rw [hi.length]; exact h64) fun out ns' h1 h2 h3 => ?_
  obtain ⟨ep, he'⟩ := PyProof.Rows.sortedAll_at s.heap its out
  have hlen : (ns'.map V.int).length ≤ sizeLine := by rw [List.length_map, h2.length_eq]; exact small64 h64
  exact ⟨.ref _, upd H (s.heap.objs.size + 1) (.lst (ns'.map V.int)), I.laid (t' := s.toks) (fun _ _ => PyProof.Rows.sortedAll_old) (Nat.le_succ _) ⟨hlen, out.toList, ep, vals_of_ints h1, he'⟩, rfl, q ns' _ h2 h3 (I.hok.fresh (Nat.le_succ _))⟩
theorem cr_sortedS : CallR X (.builtin "sorted") (rSortedS X.K) := by
  intro pins s σ H vs us Q I r h
  obtain ⟨a, xs, rfl, hs, h64, q⟩ := h
  obtain ⟨its, rv, hl, _⟩ := I.list hs
  rw [Vals.ref1 r]
  have hlen0 := rv.length
  rw [List.length_map] at hlen0
  refine PyProof.Rows.sorted_strs hl.isList rv.strs (by rw [← hlen0]; exact h64) fun out ys h1 h2 h3 => ?_
  obtain ⟨ep, he'⟩ := PyProof.Rows.sortedAll_at s.heap its out
  have hlen : (ys.map V.str).length ≤ sizeLine := by rw [List.length_map, h2.length_eq]; exact small64 h64
  exact ⟨.ref _, upd H (s.heap.objs.size + 1) (.lst (ys.map V.str)), I.laid (t' := s.toks) (fun _ _ => PyProof.Rows.sortedAll_old) (Nat.le_succ _) ⟨hlen, out.toList, ep, vals_of_strs h1, he'⟩, rfl, q ys _ h2 h3 (I.hok.fresh (Nat.le_succ _))⟩
/-- xs.sort(), ints -/
def rSort : V → List V → Hp → VK → Prop := fun x xs H Q => ∃ (a : Addr) (ns : List Int), x = V.ref a ∧ xs = [] ∧ H a = some (.lst (ns.map V.int)) ∧ ns.length < 64 ∧
  ∀ ns' : List Int, ns'.Perm ns → ns'.Pairwise (· ≤ ·) → Q .non (upd H a (.lst (ns'.map V.int)))
theorem mt_sort : MtR X "list.sort" rSort := by
  intro pins s σ H x xs v us Q I rx rxs h
  obtain ⟨a, ns, rfl, rfl, ha, h64, q⟩ := h
  cases rx
  cases rxs
  obtain ⟨hz, its, n, rv, hob⟩ := I.hok a _ ha
  have hi := rv.ints
  refine wpAny_call_entry PyProof.Rows.slot_list_sort ⟨_, hob, rfl⟩ PyProof.Rows.entry_list_sort
    (PyProof.Rows.list_sort_tree hob hi (by rw [hi.length]; exact h64) fun out ns' h1 h2 h3 => ⟨.none, rfl, ?_⟩) (PyProof.Rows.args_list_sort _)
  obtain ⟨ep, he'⟩ := PyProof.Rows.sortedHeap_at (vs := its) (out := out) hob
  have hlen : (ns'.map V.int).length ≤ sizeLine := by rw [List.length_map, h2.length_eq]; exact small64 h64
  refine ⟨.non, upd H a (.lst (ns'.map V.int)), I.write (e := a) (t' := s.toks) (by rw [ha]; trivial) (.inl rfl) (fun b u hb hu => ?_) ⟨_, he'⟩ ⟨hlen, out.toList, ep, vals_of_ints h1, he'⟩, rfl, q ns' h2 h3⟩
  rw [PyProof.Rows.sortedHeap_old hb (Heap.lt_size hu)]; exact hu
end

/-! ### list.index, flat items -/
section
variable {X : Cx}
def rIndex (K : PySem.W.Frag) : V → List V → Hp → VK → Prop := fun x xs H Q => ∃ (a : Addr) (ys : List V) (y : V) (j : Nat) (z : V), x = V.ref a ∧ xs = [y] ∧ SqL K H a ys ∧ flatV y = true ∧ ys.all flatV = true ∧ ys[j]? = some z ∧ eqV z y = true ∧
  (∀ (m : Nat) (z' : V), m < j → ys[m]? = some z' → eqV z' y = false) ∧ Q (.int (j : Nat)) H
theorem flat_at {ys : List V} (f : ys.all flatV = true) {j : Nat} {z : V} (h : ys[j]? = some z) : flatV z = true := List.all_eq_true.mp f z (List.mem_of_getElem? h)
theorem mt_index : MtR X "list.index" (rIndex X.K) := by
  intro pins s σ H x xs v us Q I rx rxs h
  obtain ⟨a, ys, y, j, z, rfl, rfl, hs, fy, fys, hz, hzj, hno, q⟩ := h
  cases rx
  cases rxs with
  | cons ry rt =>
    rename_i uy ut
    cases rt
    obtain ⟨its, rv, ⟨⟨cls, dd, data, sl⟩, n, ho, hc, hdn, hd⟩, hlen⟩ := I.list hs
    simp only at hc hd
    subst hc hd
    obtain ⟨u, hu, ru⟩ := rv.get hz
    obtain ⟨hjl, hje⟩ := List.getElem?_eq_some_iff.mp hu
    have hvl := rv.length
    have hj : j < its.toArray.size := by simpa using hjl
    have hsl := sizeLine_eq
    refine call_meets PySem.F.slot_list_index ⟨_, ho, rfl⟩ PySem.F.entry_list_index (PySem.F.args_list_index_2 _ _)
      (SeqAt.list_indexAt a its.toArray n dd sl uy (eqU y) j hj (by omega) ?_ ?_) ⟨ho, fun u' hu' => mem_eqAt ry fy rv fys u' (by simpa using hu'), ?_⟩
    · have e1 : its.toArray[j] = u := by simpa using hje
      rw [e1, eqU_of ru (flat_at fys hz)]
      exact hzj
    · intro m hm hmj
      have hml : m < its.length := by simpa using hm
      have hmy : m < ys.length := by omega
      have hy' : ys[m]? = some ys[m] := List.getElem?_eq_getElem hmy
      obtain ⟨u2, hu2, ru2⟩ := rv.get hy'
      obtain ⟨_, hme⟩ := List.getElem?_eq_some_iff.mp hu2
      have e1 : its.toArray[m] = u2 := by simpa using hme
      rw [e1, eqU_of ru2 (flat_at fys hy')]
      exact hno m _ hmj hy'
    · exact ⟨.int (j : Nat), H, I.tok _, ⟨_, rfl⟩, q⟩
end

/-! ### type(x) of an own instance; is, is not of a module's class -/
section
variable {X : Cx}
theorem cr_type : CallR X (.type "type") (fun xs H Q => ∃ a C dx fs, xs = [V.ref a] ∧ H a = some (.ins C dx fs) ∧ Q (.ref C) H) := by
  intro pins s σ H xs us Q I r h
  obtain ⟨a, C, dx, fs, rfl, ha, q⟩ := h
  rw [Vals.ref1 r]
  obtain ⟨mA, O, _⟩ := ins_get I.hok ha
  obtain ⟨od, J, _⟩ := O.look
  exact PySem.W.kto_own J ⟨.ref C, H, I, rfl, q⟩
/-- an object of the module whose class is no tuple: a class of the text (makesIn says that its type is a type's heir) -/
theorem cls_there {K : PySem.W.Frag} {C : Addr} (h : PySem.W.makesIn K C = true) : ∃ o, K.lookup C = some o ∧ o.cls ≠ .type "tuple" := by
  unfold PySem.W.makesIn at h
  split at h
  · rename_i oc od cd sl ho
    refine ⟨_, ho, fun e => ?_⟩
    rw [Bool.and_eq_true] at h
    have h2 : PySem.W.instIn K (.ref C) (.type "type") = some true := beq_iff_eq.mp h.2
    have e2 : oc = .type "tuple" := e
    have h3 : PySem.W.instIn K (.ref C) (.type "type") = PySem.W.subIn K oc (.type "type") := by
      show ((K.lookup C).map (fun o => o.cls)).bind (fun t => PySem.W.subIn K t (.type "type")) = _
      rw [ho]
      all_goals rfl
    rw [h3, e2] at h2
    have h4 : PySem.W.subIn K (.type "tuple") (.type "type") = some false := by
      show (fastBuiltinMro "tuple").map (·.contains (.type "type")) = some false
      decide +kernel
    rw [h4] at h2
    cases h2
  · cases h
theorem op_is_cls : OpR X (compareOp .Is) (fun x y H Q => ∃ a b, x = V.ref a ∧ y = V.ref b ∧ (a = b ∨ (PySem.W.makesIn X.K a = true ∧ PySem.W.makesIn X.K b = true)) ∧ Q (.bl (decide (a = b))) H) := by
  intro pins s σ H x y v u Q I rx ry h
  obtain ⟨a, b, rfl, rfl, hab, q⟩ := h
  cases rx
  cases ry
  by_cases z : a = b
  · subst z
    exact wpAny_is_ref_self ⟨.bl _, H, I, by simp [RelV], q⟩
  · rcases hab with e | ⟨h1, h2⟩
    · exact absurd e z
    · obtain ⟨o1, e1, n1⟩ := cls_there h1
      obtain ⟨o2, e2, _⟩ := cls_there h2
      exact wpAny_is_ref_other z (I.kIn _ _ e1) (I.kIn _ _ e2) n1 ⟨.bl _, H, I, by simp [RelV, z], q⟩
theorem op_isnot_cls : OpR X (compareOp .IsNot) (fun x y H Q => ∃ a b, x = V.ref a ∧ y = V.ref b ∧ (a = b ∨ (PySem.W.makesIn X.K a = true ∧ PySem.W.makesIn X.K b = true)) ∧ Q (.bl (!decide (a = b))) H) := by
  intro pins s σ H x y v u Q I rx ry h
  obtain ⟨a, b, rfl, rfl, hab, q⟩ := h
  cases rx
  cases ry
  by_cases z : a = b
  · subst z
    exact wpAny_isNot_ref_self ⟨.bl _, H, I, by simp [RelV], q⟩
  · rcases hab with e | ⟨h1, h2⟩
    · exact absurd e z
    · obtain ⟨o1, e1, n1⟩ := cls_there h1
      obtain ⟨o2, e2, _⟩ := cls_there h2
      exact wpAny_isNot_ref_other z (I.kIn _ _ e1) (I.kIn _ _ e2) n1 ⟨.bl _, H, I, by simp [RelV, z], q⟩
end

/-! ### any(xs), all(xs) of a list of bools -/
theorem iter_any {prog : Program} {w : World} {A : Around} {E : Value → Shared → Prop} {s : Shared} {l : Addr} {items : Array Value} {Q : Value → Shared → Prop} (hl : s.heap.IsList l items)
    (h : ∀ s₂ : Shared, s₂ = { s with heap := s.heap.push { cls := .type "list_iterator", data := .fields #[.ref l, .int 0 0] } } →
      (s₂.heap.IsListIter s.heap.objs.size l 0 ∧ s₂.heap.IsList l items) → l ≠ s.heap.objs.size → Q (.ref s.heap.objs.size) s₂) : wpAny (model prog w) A (pyIter (.ref l)) Q E s := by
  have hlt : l < s.heap.objs.size := by obtain ⟨_, e, _⟩ := hl; exact Heap.lt_size e
  exact wpAny_pyIter_list hl (h _ rfl ⟨⟨_, Heap.get?_push_size _ rfl, rfl, rfl⟩, hl.push _⟩ (Nat.ne_of_lt hlt))
theorem truth_bools {prog : Program} {w : World} {A : Around} {bs : List Bool} {its : List Value} (e : its = bs.map Value.bool) :
    TruthOf prog w A (fun i v => its.toArray[i]? = some v) (fun i => bs.getD i false) := fun i v s Q E hv hq => by
  have hv' : its[i]? = some v := by simpa using hv
  rw [e, List.getElem?_map] at hv'
  obtain ⟨b, hb, rfl⟩ := Option.map_eq_some_iff.mp hv'
  have hg : bs.getD i false = b := by rw [List.getD_eq_getElem?_getD, hb] <;> rfl
  have hq' : Q (bs.getD i false) s := hq
  rw [hg] at hq'
  exact wpAny_truthy_bool hq'
theorem any_range : ∀ bs : List Bool, (List.range bs.length).any (fun i => bs.getD i false) = bs.any id
  | [] => rfl
  | b :: bs => by
    rw [List.length_cons, List.range_succ_eq_map, List.any_cons, List.any_map, List.any_cons, ← any_range bs]
    all_goals rfl
theorem all_range : ∀ bs : List Bool, (List.range bs.length).all (fun i => bs.getD i false) = bs.all id
  | [] => rfl
  | b :: bs => by
    rw [List.length_cons, List.range_succ_eq_map, List.all_cons, List.all_map, List.all_cons, ← all_range bs]
    all_goals rfl
section
variable {X : Cx}
def rAny (K : PySem.W.Frag) : List V → Hp → VK → Prop := fun vs H Q => ∃ (a : Addr) (bs : List Bool), vs = [V.ref a] ∧ SqL K H a (bs.map V.bl) ∧ Q (.bl (bs.any id)) H
def rAll (K : PySem.W.Frag) : List V → Hp → VK → Prop := fun vs H Q => ∃ (a : Addr) (bs : List Bool), vs = [V.ref a] ∧ SqL K H a (bs.map V.bl) ∧ Q (.bl (bs.all id)) H
theorem cr_any (hc : X.calm = true) : CallR X (.builtin "any") (rAny X.K) := by
  intro pins s σ H vs us Q I r h
  obtain ⟨a, bs, rfl, hs, q⟩ := h
  obtain ⟨its, rv, hl, _⟩ := I.list hs
  rw [Vals.ref1 r]
  have hb := rv.bls
  refine call_any_walk (iter_any hl.isList fun s₂ e2 st hne => ?_)
  subst e2
  refine ⟨_, _, _, _, _, _, _, rfl, Walks.list (A := X.A.in1) (I.ok.hd hc) _ a hne its.toArray, st, truth_bools hb, fun h' tk hk => ?_⟩
  refine ⟨.bl _, H, I.kept fun b o eo => hk b o (fun hmem => ?_) (Heap.get?_push_of_some _ eo), ?_, q⟩
  · rcases List.mem_cons.mp hmem with e1 | hmem
    · exact absurd (e1 ▸ Heap.lt_size eo) (Nat.lt_irrefl _)
    · cases hmem
  · show Value.bool _ = Value.bool _
    rw [← any_range, hb, List.size_toArray, List.length_map]
theorem cr_all (hc : X.calm = true) : CallR X (.builtin "all") (rAll X.K) := by
  intro pins s σ H vs us Q I r h
  obtain ⟨a, bs, rfl, hs, q⟩ := h
  obtain ⟨its, rv, hl, _⟩ := I.list hs
  rw [Vals.ref1 r]
  have hb := rv.bls
  refine call_all_walk (iter_any hl.isList fun s₂ e2 st hne => ?_)
  subst e2
  refine ⟨_, _, _, _, _, _, _, rfl, Walks.list (A := X.A.in1) (I.ok.hd hc) _ a hne its.toArray, st, truth_bools hb, fun h' tk hk => ?_⟩
  refine ⟨.bl _, H, I.kept fun b o eo => hk b o (fun hmem => ?_) (Heap.get?_push_of_some _ eo), ?_, q⟩
  · rcases List.mem_cons.mp hmem with e1 | hmem
    · exact absurd (e1 ▸ Heap.lt_size eo) (Nat.lt_irrefl _)
    · cases hmem
  · show Value.bool _ = Value.bool _
    rw [← all_range, hb, List.size_toArray, List.length_map]
end

/-! ### == and != of data at any depth: none, bools, ints, texts, lists, tuples -/
mutual
inductive Dp (K : PySem.W.Frag) (H : Hp) : V → PyData → Prop
  | non : Dp K H .non .none
  | bl (b : Bool) : Dp K H (.bl b) (.bool b)
  | int (i : Int) : Dp K H (.int i) (.int i)
  | str (x : Str) : Dp K H (.str x) (.str x)
  | lst {a : Addr} {xs : List V} {ds : List PyData} : SqL K H a xs → DpAll K H xs ds → Dp K H (.ref a) (.list ds)
  | tup {a : Addr} {xs : List V} {ds : List PyData} : SqT K H a xs → DpAll K H xs ds → Dp K H (.ref a) (.tuple ds)
inductive DpAll (K : PySem.W.Frag) (H : Hp) : List V → List PyData → Prop
  | nil : DpAll K H [] []
  | cons {v : V} {vs : List V} {d : PyData} {ds : List PyData} : Dp K H v d → DpAll K H vs ds → DpAll K H (v :: vs) (d :: ds)
end
section
variable {X : Cx} {pins : List (Addr × Obj)} {σ : St} {H : Hp} {s : Shared}
mutual
theorem Dp.reads (I : Inv X pins σ H s) : ∀ (d : PyData) (v : V) (u : Value), Dp X.K H v d → RelV v u → ∃ as, Reads s.heap u d as
  | .none, _, _, h, r => by
    cases h
    cases r
    exact ⟨_, Reads.none⟩
  | .bool b, _, _, h, r => by
    cases h
    cases r
    exact ⟨_, Reads.bool b⟩
  | .int i, _, _, h, r => by
    cases h
    obtain ⟨t, rfl⟩ := r
    exact ⟨_, Reads.int i t⟩
  | .str x, _, _, h, r => by
    cases h
    obtain ⟨t, rfl⟩ := r
    exact ⟨_, Reads.str x t⟩
  | .list ds, _, _, h, r => by
    cases h with
    | lst hs ha =>
      cases r
      obtain ⟨its, rv, ⟨o, n, ho, hc, _, hd⟩, _⟩ := I.list hs
      obtain ⟨as, hr⟩ := Dp.readsAll I ds _ its ha rv
      exact ⟨_, Reads.list ho hc hd hr⟩
  | .tuple ds, _, _, h, r => by
    cases h with
    | tup hs ha =>
      cases r
      obtain ⟨its, rv, ⟨o, ho, hc, n, hd⟩, _⟩ := I.tuple hs
      obtain ⟨as, hr⟩ := Dp.readsAll I ds _ its ha rv
      exact ⟨_, Reads.tuple ho hc hd hr⟩
  | .dict _, _, _, h, _ => by cases h
theorem Dp.readsAll (I : Inv X pins σ H s) : ∀ (ds : List PyData) (vs : List V) (us : List Value), DpAll X.K H vs ds → Vals vs us → ∃ as, ReadsAll s.heap us ds as
  | [], _, _, h, r => by
    cases h
    cases r
    exact ⟨_, ReadsAll.nil⟩
  | d :: ds, _, _, h, r => by
    cases h with
    | cons h1 h2 =>
      cases r with
      | cons r1 r2 =>
        obtain ⟨as, q1⟩ := Dp.reads I d _ _ h1 r1
        obtain ⟨bs, q2⟩ := Dp.readsAll I ds _ _ h2 r2
        exact ⟨_, ReadsAll.cons q1 q2⟩
end
end
section
variable {X : Cx}
def rEqD (K : PySem.W.Frag) : R2 := fun x y H Q => ∃ d e, Dp K H x d ∧ Dp K H y e ∧ SeqAt.shaped d = true ∧ SeqAt.shaped e = true ∧ Q (.bl (PyData.eqv d e)) H
def rNeD (K : PySem.W.Frag) : R2 := fun x y H Q => ∃ d e, Dp K H x d ∧ Dp K H y e ∧ SeqAt.shaped d = true ∧ SeqAt.shaped e = true ∧ Q (.bl (!PyData.eqv d e)) H
theorem op_eqD (hu : X.A.units + 64 < cLine) : OpR X (compareOp .Eq) (rEqD X.K) := by
  intro pins s σ H x y v u Q I rx ry h
  obtain ⟨d, e, hd, he, sd, se, q⟩ := h
  obtain ⟨as, r1⟩ := Dp.reads I d x v hd rx
  obtain ⟨bs, r2⟩ := Dp.reads I e y u he ry
  exact SeqAt.compareEq_shaped r1 r2 sd se hu ⟨.bl _, H, I, rfl, q⟩
theorem op_neD (hu : X.A.units + 64 < cLine) : OpR X (compareOp .NotEq) (rNeD X.K) := by
  intro pins s σ H x y v u Q I rx ry h
  obtain ⟨d, e, hd, he, sd, se, q⟩ := h
  obtain ⟨as, r1⟩ := Dp.reads I d x v hd rx
  obtain ⟨bs, r2⟩ := Dp.reads I e y u he ry
  exact SeqAt.compareNe_shaped r1 r2 sd se hu ⟨.bl _, H, I, rfl, q⟩
end
end L2

namespace L2
open PySem PySem.Spec PyProof.Rows
abbrev CellAt (h : Heap) (c : Addr) (v : Option Value) : Prop := h.IsCell c v
def relS (scope sc : Scope) : Scope :=
  { scope with names := scope.names.map fun (n, k) => if (k == .free && sc.kind == .function && sc.names.lookup n == some .cell) then (n, .cell) else (n, k) }

def cloFrom (cells : List (Str × Addr)) : List (Str × NameKind) → List (Str × Addr) → List (Str × Addr)
  | [], acc => acc
  | (n, k) :: r, acc => if k == .free then cloFrom cells r ((n, (cells.lookup n).getD 0) :: acc) else cloFrom cells r acc

theorem closure_loop (env : Env) (f : Str × NameKind → List (Str × Addr) → Sem (ForInStep (List (Str × Addr))))
    (hf : ∀ n k c, f (n, k) c = if k == .free then (do let a ← cellOf env n; pure (.yield ((n, a) :: c))) else pure (.yield c)) :
    ∀ (names : List (Str × NameKind)) (acc : List (Str × Addr)), (∀ y ∈ names, y.2 = .free → ∃ c, env.cells.lookup y.1 = some c) → forIn names acc f = pure (cloFrom env.cells names acc)
  | [], acc, _ => by rw [List.forIn_nil]; rfl
  | (n, k) :: r, acc, h => by
    rw [List.forIn_cons, hf]
    have ih := fun acc => closure_loop env f hf r acc fun y hy => h y (List.mem_cons_of_mem _ hy)
    unfold cloFrom
    by_cases hk : (k == NameKind.free) = true
    · rw [if_pos hk, if_pos hk]
      obtain ⟨c, hc⟩ := h (n, k) List.mem_cons_self (by simpa using hk)
      have e : cellOf env n = pure c := by unfold cellOf; rw [hc]
      rw [e]
      have e2 : (env.cells.lookup n).getD 0 = c := by rw [hc]; rfl
      rw [e2]
      exact ih _
    · rw [if_neg hk, if_neg hk]
      exact ih _
theorem closure_ok {scope : Scope} {env : Env} (h : ∀ y ∈ scope.names, y.2 = .free → ∃ c, env.cells.lookup y.1 = some c) : closureFor scope env = pure (cloFrom env.cells scope.names []) := by
  simp only [closureFor]
  rw [closure_loop env _ (fun n k c => rfl) scope.names [] h]
  rfl

theorem mem_lookup {α : Type} : ∀ {l : List (Str × α)} {n : Str} {c : α}, (n, c) ∈ l → ∃ c', l.lookup n = some c'
  | (k, v) :: r, n, c, h => by
    rw [List.lookup_cons]
    cases hb : n == k with
    | true => exact ⟨_, rfl⟩
    | false =>
      rcases List.mem_cons.mp h with e | h
      · cases e; simp at hb
      · exact mem_lookup h

theorem cloFrom_mem {cells : List (Str × Addr)} : ∀ {names : List (Str × NameKind)} {acc : List (Str × Addr)} {n : Str} {c : Addr}, (n, c) ∈ cloFrom cells names acc → (n, c) ∈ acc ∨ ((n, .free) ∈ names ∧ c = (cells.lookup n).getD 0)
  | [], _, _, _, h => .inl h
  | (m, k) :: r, acc, n, c, h => by
    unfold cloFrom at h
    split at h
    · rename_i hk
      have hk : k = .free := by simpa using hk
      rcases cloFrom_mem h with h | ⟨h1, h2⟩
      · rcases List.mem_cons.mp h with e | h
        · cases e; exact .inr ⟨hk ▸ List.mem_cons_self, rfl⟩
        · exact .inl h
      · exact .inr ⟨List.mem_cons_of_mem _ h1, h2⟩
    · rcases cloFrom_mem h with h | ⟨h1, h2⟩
      · exact .inl h
      · exact .inr ⟨List.mem_cons_of_mem _ h1, h2⟩
theorem cloFrom_acc {cells : List (Str × Addr)} : ∀ {names : List (Str × NameKind)} {acc : List (Str × Addr)} {p : Str × Addr}, p ∈ acc → p ∈ cloFrom cells names acc
  | [], _, _, h => h
  | (m, k) :: r, acc, p, h => by
    unfold cloFrom
    split
    · exact cloFrom_acc (List.mem_cons_of_mem _ h)
    · exact cloFrom_acc h
theorem cloFrom_has {cells : List (Str × Addr)} : ∀ {names : List (Str × NameKind)} {acc : List (Str × Addr)} {n : Str}, (n, .free) ∈ names → (n, (cells.lookup n).getD 0) ∈ cloFrom cells names acc
  | (m, k) :: r, acc, n, h => by
    unfold cloFrom
    rcases List.mem_cons.mp h with e | h
    · cases e
      exact cloFrom_acc List.mem_cons_self
    · split
      · exact cloFrom_has h
      · exact cloFrom_has h

theorem cells_mem : ∀ {names : List (Str × NameKind)} {h : Heap} {acc : List (Str × Addr)} {x : Str} {c : Addr}, (x, c) ∈ cellsFrom h.objs.size names acc →
    (x, c) ∈ acc ∨ ((x, .cell) ∈ names ∧ h.objs.size ≤ c ∧ CellAt (pushCells h names) c none)
  | [], _, _, _, _, h => .inl h
  | (n, k) :: r, h, acc, x, c, hm => by
    unfold cellsFrom at hm
    unfold pushCells
    split at hm
    · rename_i hk
      rw [if_pos hk]
      have hk : k = .cell := by simpa using hk
      rw [← Heap.size_push h { cls := .type "cell", data := .cell none }] at hm
      rcases cells_mem hm with hm | ⟨h1, h2, h3⟩
      · rcases List.mem_cons.mp hm with e | hm
        · cases e
          exact .inr ⟨hk ▸ List.mem_cons_self, Nat.le_refl _, _, pushCells_keeps r _ _ _ (Heap.get?_push_size _ rfl), rfl⟩
        · exact .inl hm
      · rw [Heap.size_push] at h2
        exact .inr ⟨List.mem_cons_of_mem _ h1, Nat.le_of_succ_le h2, h3⟩
    · rename_i hk
      rw [if_neg hk]
      rcases cells_mem hm with hm | ⟨h1, h2, h3⟩
      · exact .inl hm
      · exact .inr ⟨List.mem_cons_of_mem _ h1, h2, h3⟩
theorem cells_acc : ∀ {names : List (Str × NameKind)} {n : Nat} {acc : List (Str × Addr)} {p : Str × Addr}, p ∈ acc → p ∈ cellsFrom n names acc
  | [], _, _, _, h => h
  | (m, k) :: r, n, acc, p, h => by
    unfold cellsFrom
    split
    · exact cells_acc (List.mem_cons_of_mem _ h)
    · exact cells_acc h
theorem cells_has : ∀ {names : List (Str × NameKind)} {n : Nat} {acc : List (Str × Addr)} {x : Str}, (x, .cell) ∈ names → ∃ c, (x, c) ∈ cellsFrom n names acc
  | (m, k) :: r, n, acc, x, h => by
    unfold cellsFrom
    rcases List.mem_cons.mp h with e | h
    · cases e
      exact ⟨n, cells_acc List.mem_cons_self⟩
    · split
      · exact cells_has h
      · exact cells_has h
theorem cells_inj : ∀ {names : List (Str × NameKind)} {h : Heap} {acc : List (Str × Addr)} {x y : Str} {c : Addr}, (∀ p ∈ acc, p.2 < h.objs.size) → (∀ x y c, (x, c) ∈ acc → (y, c) ∈ acc → x = y) →
    (x, c) ∈ cellsFrom h.objs.size names acc → (y, c) ∈ cellsFrom h.objs.size names acc → x = y
  | [], _, _, _, _, _, _, hi, h1, h2 => hi _ _ _ h1 h2
  | (n, k) :: r, h, acc, x, y, c, hl, hi, h1, h2 => by
    unfold cellsFrom at h1 h2
    split at h1
    · rename_i hk
      rw [if_pos hk] at h2
      rw [← Heap.size_push h { cls := .type "cell", data := .cell none }] at h1 h2
      refine cells_inj (h := h.push _) (fun p hp => ?_) (fun x y c a b => ?_) h1 h2
      · rw [Heap.size_push]
        rcases List.mem_cons.mp hp with rfl | hp
        · exact Nat.lt_succ_self _
        · exact Nat.lt_succ_of_lt (hl p hp)
      · rcases List.mem_cons.mp a with e | a <;> rcases List.mem_cons.mp b with e' | b
        · cases e; cases e'; rfl
        · cases e; exact absurd (hl _ b) (Nat.lt_irrefl _)
        · cases e'; exact absurd (hl _ a) (Nat.lt_irrefl _)
        · exact hi _ _ _ a b
    · rename_i hk
      rw [if_neg hk] at h2
      exact cells_inj hl hi h1 h2

theorem newEnv_comp {M : Model} {A : Around} {E : Value → Shared → Prop} {s : Shared} {scope : Scope} {globals : Addr} {closure : List (Str × Addr)} {qual : Str} {func : Option Addr} {code : Value} {around : Env} {builtins : Addr} {Q : Env → Shared → Prop}
    (h : Q (newEnv scope s.heap.objs.size globals (cellsFrom (s.heap.objs.size + 1) scope.names closure) qual func code (some around) builtins)
      { s with heap := pushCells (s.heap.push { cls := .type "dict", data := .dict #[] }) scope.names }) :
    wpAny M A (newFunctionEnv scope globals closure [] qual func code (some around) builtins) Q E s := by
  simp only [newFunctionEnv, Option.isSome_some, if_true]
  refine wpAny_bind (wpAny_alloc ?_)
  refine wpAny_bind (wpAny_layCells _ (fun n k c => rfl) scope.names closure _ _ ?_)
  rw [show ({ s with heap := s.heap.push { cls := .type "dict", data := .dict #[] } } : Shared).heap.objs.size = s.heap.objs.size + 1 from Heap.size_push ..]
  rw [List.forIn_nil]
  exact wpAny_bind (wpAny_pure (wpAny_pure h))

/-- every name of the written scope, in the scope that runs -/
theorem lookup_relS {sc : Scope} : ∀ {names : List (Str × NameKind)} {x : Str} {k : NameKind},
    (names.map fun (n, k) => if (k == NameKind.free && sc.kind == .function && sc.names.lookup n == some .cell) then (n, NameKind.cell) else (n, k)).lookup x = some k →
    ∃ k', names.lookup x = some k' ∧ (k = k' ∨ (k' = .free ∧ k = .cell))
  | [], _, _, h => by simp at h
  | (n, k₀) :: r, x, k, h => by
    have ih := @lookup_relS sc r x k
    have h' : List.lookup x ((if (k₀ == NameKind.free && sc.kind == .function && sc.names.lookup n == some .cell) = true then (n, NameKind.cell) else (n, k₀)) :: (r.map _)) = some k := h
    cases hx : x == n with
    | true =>
      simp only [List.lookup_cons, hx]
      by_cases hc : (k₀ == NameKind.free && sc.kind == .function && sc.names.lookup n == some .cell) = true
      · rw [if_pos hc] at h'
        simp only [List.lookup_cons, hx] at h'
        cases h'
        simp only [Bool.and_eq_true, beq_iff_eq] at hc
        exact ⟨k₀, rfl, .inr ⟨hc.1.1, rfl⟩⟩
      · rw [if_neg hc] at h'
        simp only [List.lookup_cons, hx] at h'
        cases h'
        exact ⟨_, rfl, .inl rfl⟩
    | false =>
      simp only [List.lookup_cons, hx]
      by_cases hc : (k₀ == NameKind.free && sc.kind == .function && sc.names.lookup n == some .cell) = true
      · rw [if_pos hc] at h'
        simp only [List.lookup_cons, hx] at h'
        exact ih h'
      · rw [if_neg hc] at h'
        simp only [List.lookup_cons, hx] at h'
        exact ih h'
theorem lookup_relS_keep {sc : Scope} : ∀ {names : List (Str × NameKind)} {x : Str} {k : NameKind}, k ≠ .free → names.lookup x = some k →
    (names.map fun (n, k) => if (k == NameKind.free && sc.kind == .function && sc.names.lookup n == some .cell) then (n, NameKind.cell) else (n, k)).lookup x = some k
  | [], _, _, _, h => by simp at h
  | (n, k₀) :: r, x, k, hk, h => by
    have ih := @lookup_relS_keep sc r x k hk
    show List.lookup x ((if (k₀ == NameKind.free && sc.kind == .function && sc.names.lookup n == some .cell) = true then (n, NameKind.cell) else (n, k₀)) :: (r.map _)) = some k
    cases hx : x == n with
    | true =>
      simp only [List.lookup_cons, hx] at h
      cases h
      have : ¬ (k₀ == NameKind.free && sc.kind == .function && sc.names.lookup n == some .cell) = true := by simp [hk]
      rw [if_neg this]
      simp only [List.lookup_cons, hx]
    | false =>
      simp only [List.lookup_cons, hx] at h
      by_cases hc : (k₀ == NameKind.free && sc.kind == .function && sc.names.lookup n == some .cell) = true
      · rw [if_pos hc]; simp only [List.lookup_cons, hx]; exact ih h
      · rw [if_neg hc]; simp only [List.lookup_cons, hx]; exact ih h

theorem pushCells_size : ∀ (names : List (Str × NameKind)) (h : Heap), h.objs.size ≤ (pushCells h names).objs.size
  | [], _ => Nat.le_refl _
  | (_, k) :: r, h => by
    unfold pushCells
    split
    · refine Nat.le_trans ?_ (pushCells_size r _)
      rw [Heap.size_push]; exact Nat.le_succ _
    · exact pushCells_size r h


/-- the names of a comprehension's block: its own (with their places in N), or captured -/
structure BlkOk (N : List Str) (sc scope : Scope) (own : List (Str × Nat)) : Prop where
  kind : scope.kind = .function
  uniq : ∀ y ∈ scope.names, scope.names.lookup y.1 = some y.2
  ix : ∀ p ∈ own, N[p.2]? = some p.1
  free : ∀ y ∈ scope.names, y.2 = .free → sc.names.lookup y.1 = some .cell ∨ sc.names.lookup y.1 = some .free
  own : ∀ y ∈ scope.names, y.2 = .local ∨ y.2 = .cell → y.1 ∈ own.map (·.1) ∨ y.1 ∉ N
/-- the slots of the block's own names forgotten -/
def wipe (σ : St) : List Nat → St
  | [] => σ
  | v :: vs => (wipe σ vs).set v none
theorem wipe_length (σ : St) : ∀ vs : List Nat, (wipe σ vs).length = σ.length
  | [] => rfl
  | v :: vs => by unfold wipe; rw [List.length_set, wipe_length σ vs]
theorem wipe_some {σ : St} {i : Nat} {x : V} : ∀ {vs : List Nat}, (wipe σ vs)[i]? = some (some x) → σ[i]? = some (some x) ∧ i ∉ vs
  | [], h => ⟨h, by simp⟩
  | v :: vs, h => by
    unfold wipe at h
    by_cases hi : v = i
    · subst hi
      by_cases hv : v < (wipe σ vs).length
      · rw [List.getElem?_set_self hv] at h; cases h
      · rw [List.getElem?_eq_none (by simpa using hv)] at h; cases h
    · rw [List.getElem?_set_ne hi] at h
      obtain ⟨h1, h2⟩ := wipe_some h
      exact ⟨h1, by simp only [List.mem_cons, not_or]; exact ⟨fun e => hi e.symm, h2⟩⟩

/-- the context of a block that starts at s, its iterator's objects at fp -/
abbrev Cx.blk (X : Cx) (s : Shared) (H : Hp) (scope : Scope) (cenv : Env) (fp : List Addr) : Cx := { X with s_0 := s, H_0 := H, env := cenv, outer := X.stack, ex := fp, fn := fun x => scope.names.lookup x == some .cell, pn := [], xe := fun _ _ => False }
section
variable {X : Cx} {pins : List (Addr × Obj)} {σ : St} {H : Hp} {s : Shared}
theorem block_start {scope : Scope} {own : List (Str × Nat)} {fp : List Addr} (I : Inv X pins σ H s) (ok : BlkOk X.N X.env.scope scope own) (hN : X.N.Nodup) (hfp : ∀ b ∈ fp, FpOk X pins H b ∧ b < s.heap.objs.size) :
    Inv (X.blk s H scope (compEnvC scope (cellsFrom (s.heap.objs.size + 1) scope.names (cloFrom X.env.cells scope.names [])) s.heap.objs.size X.env) fp) [] (wipe σ (own.map (·.2))) H { s with heap := pushCells (s.heap.push { cls := .type "dict", data := .dict #[] }) scope.names } := by
  have hfree : ∀ y ∈ scope.names, y.2 = .free → ∃ c, X.env.cells.lookup y.1 = some c := fun y hy e => by
    rcases ok.free y hy e with k | k
    · exact I.ok.has _ (.inl k)
    · exact I.ok.has _ (.inr k)
  generalize hcenv : compEnvC scope (cellsFrom (s.heap.objs.size + 1) scope.names (cloFrom X.env.cells scope.names [])) s.heap.objs.size X.env = cenv
  have kp : ∀ b o, s.heap.get? b = some o → (pushCells (s.heap.push { cls := .type "dict", data := .dict #[] }) scope.names).get? b = some o := fun b o e => pushCells_keeps _ _ _ _ (Heap.get?_push_of_some _ e)
  have hL : cenv.locals = s.heap.objs.size := by rw [← hcenv]; rfl
  have hcl : cenv.cells = cellsFrom (s.heap.objs.size + 1) scope.names (cloFrom X.env.cells scope.names []) := by rw [← hcenv]; rfl
  have hsc : cenv.scope = relS scope X.env.scope := by rw [← hcenv]; rfl
  rw [← Heap.size_push s.heap { cls := .type "dict", data := .dict #[] }] at hcl
  have cm : ∀ {y c}, (y, c) ∈ cloFrom X.env.cells scope.names [] → X.env.cells.lookup y = some c ∧ c < s.heap.objs.size := fun {y c} hm => by
    rcases cloFrom_mem hm with hm | ⟨h1, rfl⟩
    · cases hm
    · obtain ⟨c, hc⟩ := hfree _ h1 rfl
      rw [hc]
      obtain ⟨w, z⟩ := I.cell _ _ hc
      exact ⟨rfl, z.lt⟩
  have mem : ∀ {y c}, cenv.cells.lookup y = some c → (X.env.cells.lookup y = some c ∧ c < s.heap.objs.size) ∨ (s.heap.objs.size + 1 ≤ c ∧ CellAt (pushCells (s.heap.push { cls := .type "dict", data := .dict #[] }) scope.names) c none) := fun {y c} e => by
    rw [hcl] at e
    rcases cells_mem (PySem.mem_of_lookup e) with hm | ⟨_, h2, h3⟩
    · exact .inl (cm hm)
    · rw [Heap.size_push] at h2; exact .inr ⟨h2, h3⟩
  have look : ∀ {y}, scope.names.lookup y = some .free → ∃ c, cenv.cells.lookup y = some c ∧ X.env.cells.lookup y = some c := fun {y} hl => by
    have hy : (y, NameKind.free) ∈ scope.names := PySem.mem_of_lookup hl
    obtain ⟨c', e'⟩ := mem_lookup (cells_acc (names := scope.names) (n := (s.heap.push { cls := .type "dict", data := .dict #[] }).objs.size) (cloFrom_has (cells := X.env.cells) (acc := []) hy))
    rw [← hcl] at e'
    refine ⟨c', e', ?_⟩
    rw [hcl] at e'
    rcases cells_mem (PySem.mem_of_lookup e') with hm | ⟨h1, _, _⟩
    · exact (cm hm).1
    · have := ok.uniq _ h1
      rw [hl] at this; cases this
  have okB : (X.blk s H scope cenv fp).Ok := by
    refine ⟨I.ok.mod, by show cenv.scope.kind = _; rw [hsc]; exact ok.kind, by show cenv.globals = _; rw [← hcenv]; exact I.ok.glob, by show cenv.builtins = _; rw [← hcenv]; exact I.ok.blt, by show s.heap.objs.size ≤ cenv.locals; rw [hL]; exact Nat.le_refl _,
      fun y z c e1 e2 => ?_, fun y hy => ?_, fun y c z e => ?_, I.ok.hd, I.ok.frames, .inl rfl, fun b hb => ⟨?_, fun y c e z => ?_⟩, I.bs, Nat.le_trans I.ok.bsz I.sz, fun b o e hb => ?_, fun b hb z => ?_, I.stack, I.stkFree⟩
    · have e1 : cenv.cells.lookup y = some c := e1
      have e2 : cenv.cells.lookup z = some c := e2
      rw [hcl] at e1 e2
      refine cells_inj (fun p hp => ?_) (fun y z c a b => I.ok.inj y z c (cm a).1 (cm b).1) (PySem.mem_of_lookup e1) (PySem.mem_of_lookup e2)
      rw [Heap.size_push]
      exact Nat.lt_succ_of_lt (cm (y := p.1) (c := p.2) hp).2
    · show ∃ c, cenv.cells.lookup y = some c
      have key : ∀ k, cenv.kindOf y = some k → (k = .cell ∨ k = .free) → ∃ c, cenv.cells.lookup y = some c := fun k hk hk' => by
        unfold Env.kindOf at hk
        rw [hsc] at hk
        obtain ⟨k', e, r⟩ := lookup_relS hk
        have : k' = .cell ∨ k' = .free := by
          rcases r with rfl | ⟨rfl, _⟩
          · exact hk'
          · exact .inr rfl
        rcases this with rfl | rfl
        · obtain ⟨c, hm⟩ := cells_has (n := (s.heap.push { cls := .type "dict", data := .dict #[] }).objs.size) (acc := cloFrom X.env.cells scope.names []) (PySem.mem_of_lookup e)
          obtain ⟨c', e'⟩ := mem_lookup hm
          exact ⟨c', by rw [hcl]; exact e'⟩
        · obtain ⟨c, h1, _⟩ := look e
          exact ⟨c, h1⟩
      rcases hy with hy | hy
      · exact key _ hy (.inl rfl)
      · exact key _ hy (.inr rfl)
    · have z : (scope.names.lookup y == some NameKind.cell) = true := z
      have z : scope.names.lookup y = some .cell := by simpa using z
      have e : cenv.cells.lookup y = some c := e
      rw [hcl] at e
      rcases cells_mem (PySem.mem_of_lookup e) with hm | ⟨_, h2, _⟩
      · rcases cloFrom_mem hm with hm | ⟨h1, _⟩
        · cases hm
        · have q := ok.uniq _ h1
          rw [z] at q; cases q
      · rw [Heap.size_push] at h2
        exact Nat.le_of_succ_le h2
    · show b ≠ cenv.locals
      rw [hL]; exact Nat.ne_of_lt (hfp b hb).2
    · have e : cenv.cells.lookup y = some c := e
      rcases mem e with ⟨h1, _⟩ | ⟨h1, _⟩
      · exact (hfp b hb).1.2.2.2.2.1 y c h1 z
      · have h2 : s.heap.objs.size + 1 ≤ b := by rw [← z]; exact h1
        exact absurd (Nat.lt_of_lt_of_le (hfp b hb).2 (Nat.le_of_succ_le h2)) (Nat.lt_irrefl _)
    · rcases (hfp b hb).1.2.2.2.1 with z | z
      · exact I.ok.noex b o e z
      · exact absurd (Nat.lt_of_lt_of_le (Heap.lt_size e) (Nat.le_trans I.ok.bsz z)) (Nat.lt_irrefl _)
    · rcases List.mem_cons.mp (I.stkSub b z) with z | z
      · exact (hfp b hb).1.2.1 z
      · exact (hfp b hb).1.2.2.1 z
  refine ⟨okB, rfl, I.bare, Un.kept kp, ⟨fun _ => none, ?_, fun i y av e1 e2 e3 => ?_⟩, fun y c e => ?_, ?_, fun y c e => ?_, fun p hp => ?_, I.hok.kept kp, by rw [wipe_length]; exact I.len⟩
  · show Heap.Ns _ cenv.locals _
    rw [hL]
    exact Heap.Ns.keeps (Heap.Ns.new ..) fun b o e => pushCells_keeps _ _ _ _ e
  · obtain ⟨e2, hne⟩ := wipe_some e2
    have hfr : scope.names.lookup y = some .free ∧ (cenv.kindOf y = some .cell ∨ cenv.kindOf y = some .free) := by
      have key : ∀ k, cenv.scope.names.lookup y = some k → k = .local ∨ k = .cell ∨ k = .free → scope.names.lookup y = some .free ∧ (cenv.kindOf y = some .cell ∨ cenv.kindOf y = some .free) := fun k hk hk' => by
        have hk0 := hk
        rw [hsc] at hk
        obtain ⟨k', e, r⟩ := lookup_relS hk
        have no : ¬ (k' = .local ∨ k' = .cell) := fun hh => by
          rcases ok.own _ (PySem.mem_of_lookup e) hh with e' | e'
          · obtain ⟨p, hp, hpy⟩ := List.mem_map.mp e'
            have e3 := ok.ix p hp
            have : p.1 = y := hpy
            rw [this] at e3
            exact hne (List.mem_map.mpr ⟨p, hp, nodup_ix hN e3 e1⟩)
          · exact e' (List.mem_of_getElem? e1)
        rcases r with rfl | ⟨rfl, rfl⟩
        · rcases hk' with rfl | rfl | rfl
          · exact absurd (.inl rfl) no
          · exact absurd (.inr rfl) no
          · exact ⟨e, .inr hk0⟩
        · exact ⟨e, .inl hk0⟩
      have e3 : Vis cenv.scope y := e3
      rcases e3 with e3 | e3 | e3
      · exact key _ e3 (.inl rfl)
      · exact key _ e3 (.inr (.inl rfl))
      · exact key _ e3 (.inr (.inr rfl))
    obtain ⟨m, hn, hl⟩ := I.loc
    have hvis : Vis X.env.scope y := (ok.free _ (PySem.mem_of_lookup hfr.1) rfl).elim (fun k => .inr (.inl k)) (fun k => .inr (.inr k))
    obtain ⟨w, r, q⟩ := hl i y av e1 e2 hvis
    refine ⟨w, r, .inr ⟨hfr.2, ?_⟩⟩
    obtain ⟨c, h1, h2⟩ := look hfr.1
    rcases q with ⟨k, _⟩ | ⟨_, c', e', z⟩
    · have k : X.env.scope.names.lookup y = some .local := k
      rcases ok.free _ (PySem.mem_of_lookup hfr.1) rfl with k' | k' <;> rw [show X.env.scope.names.lookup y = _ from k'] at k <;> cases k
    · rw [h2] at e'; cases e'
      exact ⟨c, h1, z.keeps kp⟩
  · have e : cenv.cells.lookup y = some c := e
    rcases mem e with ⟨h1, _⟩ | ⟨_, z⟩
    · obtain ⟨w, z⟩ := I.cell y c h1
      exact ⟨w, z.keeps kp⟩
    · exact ⟨_, z⟩
  · show H cenv.locals = none
    rw [hL]; exact I.hok.fresh (Nat.le_refl _)
  · have e : cenv.cells.lookup y = some c := e
    rcases mem e with ⟨h1, _⟩ | ⟨h1, _⟩
    · exact I.freeC y c h1
    · exact I.hok.fresh (Nat.le_of_succ_le h1)
  · exact absurd (show p ∈ ([] : List (Addr × Obj)) ++ [] from hp) (by simp)

/-- an item appended to a tracked list -/
theorem app_ok {E : Value → Shared → Prop} {D : Addr} {xs : List V} {y : V} {v : Value} {Q : Value → Shared → Prop} (I : Inv X pins σ H s) (hD : H D = some (.lst xs)) (hz : xs.length < sizeLine) (r : RelV y v)
    (h : ∀ s', Inv X pins σ (upd H D (.lst (xs ++ [y]))) s' → Q .none s') : wpAny (model X.prog X.w) X.A (call (.builtin "list.append") [.ref D, v]) Q E s := by
  obtain ⟨hz', its, n, ri, e⟩ := I.hok D _ hD
  have hl := ri.length
  refine append_at (hsz := by rw [List.size_toArray]; omega) e fun h' sb ho' => ?_
  refine h { s with heap := h' } (I.write (t' := s.toks) (by rw [hD]; trivial) (.inl rfl) (fun b u hb q => (sb.2 b hb).trans q) ⟨_, ho'⟩ ⟨by rw [List.length_append]; exact hz, its ++ [v], n + 1, ri.append (.cons r .nil), ?_⟩)
  rw [ho']
  simp

/-- a clause's tests -/
def PTs (X : Cx) (ifs : List Expr) (t : TT) : Prop :=
  ∀ (pins : List (Addr × Obj)) (s : Shared) (σ : St) (H : Hp) (Q : Bool → Hp → Prop), Inv X pins σ H s → t σ H Q →
    wpAny (model X.prog X.w) X.A (forIn ifs true fun c r => if r = true then do let ok ← isTrue c X.env (eval c X.env); pure (ForInStep.yield ok) else pure (ForInStep.yield r)) (TP X pins σ Q) X.xe s
def tYes : TT := fun _ H Q => Q true H
theorem pts_nil : PTs X [] tYes := fun _ _ _ H _ I h => wpAny_tests_nil ⟨H, I, h⟩
theorem pts_one {c : Expr} {t : TT} (h : PT X c t) : PTs X [c] t := fun pins s σ H Q I hw => wpAny_tests_one (h pins s σ H Q I hw)
end

theorem thnF {α : Type} {t : Sem α} {Q Q' : α → Shared → Prop} {M : Model} {A : Around} {E : Value → Shared → Prop} {s : Shared} (h : wpAny M A t Q (fun _ _ => False) s) (hQ : ∀ a s, Q a s → Q' a s) : wpAny M A t Q' E s := wpAny_mono h hQ fun _ _ z => False.elim z

/-- the loop of a list comprehension's block, the target of any form (codeAny_compLoop_tests asks a target that no tuple goes to; statement and proof follow it, PyProof/CompMap.lean:41-61, with the step letOwnedTupleGo kept) -/
theorem compLoop_any {prog : Program} {w : World} {A : Around} {R : Result → Shared → Prop} {s : Shared} {elt target iter : Expr} {ifs : List Expr} {scope : Scope} {pos : Pos} {it acc : Value} {env : Env} (I : Nat → Shared → Prop)
    (turn : ∀ n s, I n s → wpAny (model prog w) A (pyNext it) (fun r s₁ => match r with
      | none => R (.ok .next) s₁
      | some v => wpAny (model prog w) A (letOwnedTupleGo target it v) (fun _ s₁' => wpAny (model prog w) A (assign target env v) (fun _ s₂ =>
          wpAny (model prog w) A (forIn ifs true fun c r => if r = true then do let ok ← isTrue c env (eval c env); pure (ForInStep.yield ok) else pure (ForInStep.yield r)) (fun ok s₃ =>
            if ok = true then wpAny (model prog w) A (eval elt env) (fun x s₄ =>
              wpAny (model prog w) A (call (.builtin "list.append") [acc, x]) (fun _ s₅ => ∃ m, m < n ∧ I m s₅) (notedBy (model prog w) A env fun e s' => R (.error e) s') s₄) (notedBy (model prog w) A env fun e s' => R (.error e) s') s₃
            else ∃ m, m < n ∧ I m s₃) (notedBy (model prog w) A env fun e s' => R (.error e) s') s₂) (notedBy (model prog w) A env fun e s' => R (.error e) s') s₁') (notedBy (model prog w) A env fun e s' => R (.error e) s') s₁) (notedBy (model prog w) A env fun e s' => R (.error e) s') s)
    (n : Nat) (h : I n s) :
    codeAny (model prog w) A (.compLoop (.ListComp elt [⟨target, iter, ifs, 0⟩] scope pos) 0 it acc env) R s := by
  refine codeAny_loop rfl I (fun n s hI => ?_) n h
  show wpAny _ A ((compTurn (.ListComp elt [⟨target, iter, ifs, 0⟩] scope pos) 0 it acc env).onRaise (fun x => do noteFrame x env; theTreesLotGoes x)) _ _ s
  refine wpAny_noted ?_
  rw [compTurn_list]
  refine wpAny_bind (wpAny_standAt (wpAny_bind (wpAny_mono (turn n s hI) (fun r s₁ h₁ => ?_) fun _ _ h' => h')))
  cases r with
  | none => exact wpAny_pure h₁
  | some v =>
    refine wpAny_bind (wpAny_mono h₁ (fun _ s₁' h₁' => ?_) fun _ _ h' => h')
    refine wpAny_bind (wpAny_mono h₁' (fun _ s₂ h₂ => wpAny_bind (wpAny_mono h₂ (fun ok s₃ h₃ => ?_) fun _ _ h' => h')) fun _ _ h' => h')
    cases ok with
    | false => exact wpAny_pure ⟨rfl, h₃⟩
    | true =>
      exact wpAny_bind (wpAny_bind (wpAny_mono h₃ (fun x s₄ h₄ => wpAny_bind (wpAny_mono h₄ (fun _ s₅ h₅ => wpAny_pure (wpAny_pure ⟨rfl, h₅⟩)) fun _ _ h' => h')) fun _ _ h' => h'))

section
variable {X : Cx}
/-- [elt for target in iter if ..]: D the new list; W by the turn and a measure, Nx what a turn is to reach -/
def tLc (wi : TI) (g : TG) (tt : TT) (te : TE) (vs : List Nat) : TE := fun σ H Q => wi σ H fun J H1 => ∀ D, H1 D = none → ∃ W : Nat → Nat → Hp → Prop, (∃ m, W 0 m (upd H1 D (.lst []))) ∧ ∀ i m H, W i m H →
  (J.stop i H ∧ Q (.ref D) H) ∨ (J.go i H ∧ ∃ Nx : Hp → Prop, (∀ H', Nx H' → ∃ m', m' < m ∧ W (i + 1) m' H') ∧ ∀ x H', J.yld i H x H' → g x (wipe σ vs) H' fun σ2 H2 => wipe σ2 vs = wipe σ vs ∧ tt σ2 H2 fun b H3 =>
    if b = true then te σ2 H3 fun y H4 => ∃ acc, H4 D = some (.lst acc) ∧ acc.length < sizeLine ∧ Nx (upd H4 D (.lst (acc ++ [y]))) else Nx H3)
theorem lc_core {pins : List (Addr × Obj)} {s : Shared} {σ : St} {H : Hp} {Q : VK} {elt tg iter : Expr} {ifs : List Expr} {scope : Scope} {own : List (Str × Nat)} {pos pos' : Pos} {wi : TI} {g : TG} {tt : TT} {te : TE} {use : Option (Value → Sem Unit)} {Qf : Value → Shared → Prop}
    (hc : X.calm = true) (hN : X.N.Nodup) (I : Inv X pins σ H s) (hi : PI X tg iter wi) (ok : BlkOk X.N X.env.scope scope own)
    (hg : ∀ (s : Shared) (H : Hp) (C : Addr) (cl : List (Str × Addr)) (fp : List Addr), PG (X.blk s H scope (compEnvC scope cl C X.env) fp) tg g) (ht : ∀ (s : Shared) (H : Hp) (C : Addr) (cl : List (Str × Addr)) (fp : List Addr), PTs (X.blk s H scope (compEnvC scope cl C X.env) fp) ifs tt)
    (he : ∀ (s : Shared) (H : Hp) (C : Addr) (cl : List (Str × Addr)) (fp : List Addr), PE (X.blk s H scope (compEnvC scope cl C X.env) fp) elt te) (hs : ∀ x, foldedSetIterable iter X.env x = pure x)
    (h : tLc wi g tt te (own.map (·.2)) σ H Q)
    (hRR : ∀ D C s' m H', Inv X pins σ H' s' → Q (.ref D) H' → s'.heap.Ns C m → FpOk X pins H' C → compPost (model X.prog X.w) X.A X.xe use Qf (.ref D) C (.ok .next) s') :
    wpAny (model X.prog X.w) X.A (comprehension (.ListComp elt [⟨tg, iter, ifs, 0⟩] scope pos) scope X.env pos' (newList []) false (eval iter X.env) use) Qf X.xe s := by
  have hfree : ∀ y ∈ scope.names, y.2 = .free → ∃ c, X.env.cells.lookup y.1 = some c := fun y hy e => by
    rcases ok.free y hy e with k | k
    · exact I.ok.has _ (.inl k)
    · exact I.ok.has _ (.inr k)
  refine wpAny_comprehension_free (use := use) rfl hs (closure_ok hfree) ok.kind (fun y hy e => by rw [ok.uniq y hy, e])
    (thn (hi pins s σ H _ I h) fun xv s1 hx => thn hx fun itv s2 h2 => ?_)
  obtain ⟨it, fp, tn, J, H2, e, I2, T, st2, f2, q⟩ := h2
  subst e
  refine wpAny_newObj_type (newEnv_comp ?_) (by show 0 ≤ sizeLine; decide)
  generalize hD : s2.heap.objs.size = D
  have hDn : H2 D = none := I2.hok.fresh (Nat.le_of_eq hD)
  obtain ⟨W, ⟨m0, w0⟩, turn⟩ := q D hDn
  -- the new list
  generalize hs3 : ({ s2 with heap := s2.heap.push { cls := .type "list", data := .seq ([] : List Value).toArray } } : Shared) = s3
  have I3 : Inv X pins σ (upd H2 D (.lst [])) s3 := by
    rw [← hs3]
    refine I2.laid (t' := s2.toks) (fun b o e => Heap.get?_push_of_some _ e) (Nat.le_of_eq hD) ⟨Nat.zero_le _, [], 0, .nil, ?_⟩
    rw [← hD]
    exact Heap.get?_push_size _ rfl
  have h3 : s3.heap = s2.heap.push { cls := .type "list", data := .seq ([] : List Value).toArray } := by rw [← hs3]
  have sz : ∀ b ∈ fp, b < s2.heap.objs.size := fun b hb => by
    obtain ⟨o, e, _⟩ := T.obj _ _ st2 b hb
    exact Heap.lt_size e
  have f3 : ∀ b ∈ fp, FpOk X pins (upd H2 D (.lst [])) b ∧ b < s3.heap.objs.size := fun b hb => by
    have hlt := sz b hb
    refine ⟨⟨?_, (f2 b hb).2⟩, by rw [h3, Heap.size_push]; exact Nat.lt_succ_of_lt hlt⟩
    rw [upd_ne (by rw [← hD]; exact Nat.ne_of_lt hlt)]
    exact (f2 b hb).1
  have st3 : tn 0 s3.heap := T.keep _ _ _ st2 fun b _ o e => by rw [h3]; exact Heap.get?_push_of_some _ e
  have I4 := block_start I3 ok hN f3
  have pg := hg s3 (upd H2 D (.lst [])) s3.heap.objs.size (cellsFrom (s3.heap.objs.size + 1) scope.names (cloFrom X.env.cells scope.names [])) fp
  have pt := ht s3 (upd H2 D (.lst [])) s3.heap.objs.size (cellsFrom (s3.heap.objs.size + 1) scope.names (cloFrom X.env.cells scope.names [])) fp
  have pe := he s3 (upd H2 D (.lst [])) s3.heap.objs.size (cellsFrom (s3.heap.objs.size + 1) scope.names (cloFrom X.env.cells scope.names [])) fp
  show codeAny _ _ (.compStart (.ListComp elt [⟨tg, iter, ifs, 0⟩] scope pos) 0 (.ref it) (.ref D) (compEnvC scope (cellsFrom (s3.heap.objs.size + 1) scope.names (cloFrom X.env.cells scope.names [])) s3.heap.objs.size X.env)) (compPost (model X.prog X.w) X.A X.xe use Qf (.ref D) s3.heap.objs.size) { s3 with heap := pushCells (s3.heap.push { cls := .type "dict", data := .dict #[] }) scope.names }
  have nfp : ∀ b ∈ fp, (upd H2 D (.lst [])) b = none := fun b hb => (f3 b hb).1.1
  generalize hce : compEnvC scope (cellsFrom (s3.heap.objs.size + 1) scope.names (cloFrom X.env.cells scope.names [])) s3.heap.objs.size X.env = ce at I4 pg pt pe ⊢
  have cL : ce.locals = s3.heap.objs.size := by subst hce; rfl
  generalize hH3 : upd H2 D (.lst []) = H3 at I3 I4 pg pt pe w0 nfp f3
  generalize hs4 : ({ s3 with heap := pushCells (s3.heap.push { cls := .type "dict", data := .dict #[] }) scope.names } : Shared) = s4 at I4 ⊢
  have st4 : tn 0 s4.heap := T.keep _ _ _ st3 fun b _ o e => by rw [← hs4]; exact pushCells_keeps _ _ _ _ (Heap.get?_push_of_some _ e)
  have stat : ∀ {σ' : St} {H' : Hp} {s' : Shared}, Inv (X.blk s3 H3 scope ce fp) [] σ' H' s' → (∀ b ∈ fp, H' b = none) → ∀ b ∈ fp, FpOk (X.blk s3 H3 scope ce fp) [] H' b := fun {σ' H' s'} I' hn b hb =>
    ⟨hn b hb, (I'.ok.exf b hb).1, I'.ok.exfs b hb, .inl hb, fun x c e => (I'.ok.exf b hb).2 x c e, fun p hp => absurd (show p ∈ ([] : List (Addr × Obj)) ++ [] from hp) (by simp)⟩
  have loop : codeAny (model X.prog X.w) X.A (.compLoop (.ListComp elt [⟨tg, iter, ifs, 0⟩] scope pos) 0 (.ref it) (.ref D) ce) (compPost (model X.prog X.w) X.A X.xe use Qf (.ref D) s3.heap.objs.size) s4 := by
    refine compLoop_any (fun n s' => ∃ i H', Inv (X.blk s3 H3 scope ce fp) [] (wipe σ (own.map (·.2))) H' s' ∧ tn i s'.heap ∧ (∀ b ∈ fp, H' b = none) ∧ W i n H') ?_ m0 ⟨0, H3, I4, st4, nfp, w0⟩
    rintro n s5 ⟨i, H5, I5, st5, n5, w5⟩
    rcases turn i n H5 w5 with ⟨stop, qq⟩ | ⟨go, Nx, hNx, step⟩
    · have td := T.done (X.blk s3 H3 scope ce fp) rfl rfl rfl hc i [] s5 _ H5 (fun _ _ => False) I5 (stat I5 n5) st5 stop
      refine thnF td fun r s6 ⟨hr, I6⟩ => ?_
      subst hr
      -- back in the def's context
      have I7 : Inv X pins σ H5 s6 := I3.call' (ch := fp) I6.os I6.base I6.hok I6.bare fun b hb => ⟨(f3 b hb).1.2.2.2.1, (f3 b hb).1.2.1, (f3 b hb).1.2.2.2.2.1, (f3 b hb).1.2.2.2.2.2⟩
      have nC : H5 s3.heap.objs.size = none := by
        have z : H5 ce.locals = none := I6.free
        rw [cL] at z
        exact z
      obtain ⟨m, hn, _⟩ := I6.loc
      have hn : s6.heap.Ns ce.locals m := hn
      rw [cL] at hn
      exact hRR D s3.heap.objs.size s6 m H5 I7 qq hn (I3.fpOk (Nat.le_refl _) nC)
    · have ti := T.item (X.blk s3 H3 scope ce fp) rfl rfl rfl hc i [] s5 _ H5 (fun _ _ => False) I5 (stat I5 n5) st5 go
      refine thnF ti fun r s6 ⟨u, hr, h6⟩ => ?_
      subst hr
      refine thnF h6 fun _ s7 ⟨x, H7, I7, r7, y7, st7, n7⟩ => ?_
      have I7' := I7.pinned (stat I7 n7) (T.obj _ _ st7)
      refine thnF (pg _ s7 _ H7 x u _ I7' r7 (step x H7 y7)) fun _ s8 ⟨σ8, H8, I8, hw8, q8⟩ => ?_
      refine thnF (pt _ s8 σ8 H8 _ I8 q8) fun b s9 ⟨H9, I9, q9⟩ => ?_
      -- the turn's end
      have fin : ∀ {s' : Shared} {H' : Hp}, Inv (X.blk s3 H3 scope ce fp) ([] ++ pinsAt fp s7.heap) σ8 H' s' → Nx H' → ∃ m, m < n ∧ ∃ i H', Inv (X.blk s3 H3 scope ce fp) [] (wipe σ (own.map (·.2))) H' s' ∧ tn i s'.heap ∧ (∀ b ∈ fp, H' b = none) ∧ W i m H' := fun {s' H'} I' nx => by
        obtain ⟨m', hm, w'⟩ := hNx H' nx
        have pin' : ∀ b ∈ fp, ∀ o, s7.heap.get? b = some o → s'.heap.get? b = some o ∧ H' b = none := fun b hb o e =>
          let z := I'.pin (b, o) (List.mem_append_right _ (List.mem_append_right _ (mem_pinsAt hb e)))
          ⟨z.1, z.2.1⟩
        have hl : (wipe σ (own.map (·.2))).length = σ8.length := by rw [← hw8, wipe_length]
        refine ⟨m', hm, i + 1, H', (I'.unpinned (pins := [])).weak hl (fun j v e => ?_), T.keep _ _ _ st7 fun b hb o e => (pin' b hb o e).1, fun b hb => ?_, w'⟩
        · rw [← hw8] at e
          exact (wipe_some e).1
        · obtain ⟨o, e, _⟩ := T.obj _ _ st7 b hb
          exact (pin' b hb o e).2
      cases b with
      | false =>
        simp only [Bool.false_eq_true, if_false] at q9 ⊢
        exact fin I9 q9
      | true =>
        simp only [if_true] at q9 ⊢
        refine thnF (pe _ s9 σ8 H9 _ I9 q9) fun z s10 ⟨yv, H10, I10, r10, acc, hD10, hz10, nx⟩ => ?_
        exact app_ok (X := X.blk s3 H3 scope ce fp) I10 hD10 hz10 r10 fun s11 I11 => fin I11 nx
  exact codeAny_compStart_list loop (T.self X.A 0 _ _ _ st4 loop)
/-- as a value -/
theorem pe_lc {elt tg iter : Expr} {ifs : List Expr} {scope : Scope} {own : List (Str × Nat)} {pos : Pos} {wi : TI} {g : TG} {tt : TT} {te : TE} (hc : X.calm = true) (hN : X.N.Nodup) (hi : PI X tg iter wi) (ok : BlkOk X.N X.env.scope scope own)
    (hg : ∀ (s : Shared) (H : Hp) (C : Addr) (cl : List (Str × Addr)) (fp : List Addr), PG (X.blk s H scope (compEnvC scope cl C X.env) fp) tg g) (ht : ∀ (s : Shared) (H : Hp) (C : Addr) (cl : List (Str × Addr)) (fp : List Addr), PTs (X.blk s H scope (compEnvC scope cl C X.env) fp) ifs tt)
    (he : ∀ (s : Shared) (H : Hp) (C : Addr) (cl : List (Str × Addr)) (fp : List Addr), PE (X.blk s H scope (compEnvC scope cl C X.env) fp) elt te) (hs : ∀ x, foldedSetIterable iter X.env x = pure x := by intro _; rfl) :
    PE X (.ListComp elt [⟨tg, iter, ifs, 0⟩] scope pos) (tLc wi g tt te (own.map (·.2))) := by
  intro pins s σ H Q I h
  rw [eval_ListComp]
  refine lc_core hc hN I hi ok hg ht he hs h fun D C s' m H' I' q hn f => ⟨m, hn, fun h'' sb => ?_⟩
  obtain ⟨f0, f1, f2, f3, f4, f5⟩ := f
  exact ⟨.ref D, H', I'.turned (t' := s'.toks) (fun b o hb e => (sb.2 b hb).trans e) f0 f1 f3 f4 f5, rfl, q⟩
/-- name = [..] on one line, the name a local -/
theorem ps_setLc {i : Nat} {y : Str} {py : Pos} {elt tg iter : Expr} {ifs : List Expr} {scope : Scope} {own : List (Str × Nat)} {pos spos : Pos} {wi : TI} {g : TG} {tt : TT} {te : TE} (hc : X.calm = true) (hN : X.N.Nodup) (hy : X.N[i]? = some y) (hyl : X.env.scope.names.lookup y = some .local)
    (hsw : swapsWith (.ListComp elt [⟨tg, iter, ifs, 0⟩] scope pos) (some (.Name y py)) spos.line X.env = pure true) (hi : PI X tg iter wi) (ok : BlkOk X.N X.env.scope scope own)
    (hg : ∀ (s : Shared) (H : Hp) (C : Addr) (cl : List (Str × Addr)) (fp : List Addr), PG (X.blk s H scope (compEnvC scope cl C X.env) fp) tg g) (ht : ∀ (s : Shared) (H : Hp) (C : Addr) (cl : List (Str × Addr)) (fp : List Addr), PTs (X.blk s H scope (compEnvC scope cl C X.env) fp) ifs tt)
    (he : ∀ (s : Shared) (H : Hp) (C : Addr) (cl : List (Str × Addr)) (fp : List Addr), PE (X.blk s H scope (compEnvC scope cl C X.env) fp) elt te) (hs : ∀ x, foldedSetIterable iter X.env x = pure x := by intro _; rfl) :
    PS X (.Assign [.Name y py] (.ListComp elt [⟨tg, iter, ifs, 0⟩] scope pos) spos) (tAsg (tLc wi g tt te (own.map (·.2))) (gName i)) := by
  intro pins s σ H D I h
  rw [exec_Assign_Name_used _ _ _ _ hsw]
  refine wpAny_bind (wpAny_standAt (wpAny_bind ?_))
  show wpAny _ X.A (do let _ ← comprehension (.ListComp elt [⟨tg, iter, ifs, 0⟩] scope pos) scope X.env (firstIterPos [⟨tg, iter, ifs, 0⟩] pos) (newList []) false (eval iter X.env) (some (assign (.Name y py) X.env))) _ _ s
  have h : tLc wi g tt te (own.map (·.2)) σ H (fun x H1 => gName i x σ H1 D.nx) := h
  refine wpAny_bind (thn (lc_core (Qf := fun _ s' => SP X pins D .next s') hc hN I hi ok hg ht he hs h fun L C s' m H' I' q hn f => ?_) fun _ s' hq => wpAny_pure (wpAny_pure hq))
  show wpAny _ _ (assign (.Name y py) X.env (.ref L)) _ _ _
  refine wpAny_assign_Name (store_ok2 (v := V.ref L) I' hN hy (.inl hyl) rfl (fun s2 I2 ⟨a, sb, ha⟩ => ?_) (.inr hyl))
  obtain ⟨f0, f1, f2, f3, f4, f5⟩ := f
  have haC : C ≠ a := by
    rcases ha with z | z
    · rw [z]; exact f1
    · exact fun e => f4 y a z e.symm
  refine ⟨m, hn.sameBut sb haC, fun h3 sb3 => ?_⟩
  exact ⟨_, H', I2.turned (t' := s2.toks) (fun b o hb e => (sb3.2 b hb).trans e) f0 f1 f3 f4 f5, q⟩
theorem sw_true {elt : Expr} {gs : List Comprehension} {scope : Scope} {pos py : Pos} {y : Str} {l : Nat} {env : Env} (hk : env.scope.kind = .function) (hy : env.scope.names.lookup y = some .local) (hl : (py.line == pos.line) = true)
    (ha : (scope.names.any fun (n, k) => n == y && (k == .local || k == .cell)) = false) : swapsWith (.ListComp elt gs scope pos) (some (.Name y py)) l env = pure true := by
  have ky : env.kindOf y = some .local := hy
  have hb : env.blockKind = .function := by unfold Env.blockKind; rw [hk]; rfl
  unfold swapsWith
  simp only [hb, ky, ha, Expr.pos, hl]
  rfl
end

/-! ### the forms one uses -/
/-- over a range: Pv by the turn and the heap (the new list at D within) -/
theorem lc_range {lo : Int} {n : Nat} {g : TG} {tt : TT} {te : TE} {vs : List Nat} {σ : St} {H1 : Hp} {D : Addr} {Qd : Hp → Prop} (Pv : Nat → Hp → Prop) (h0 : Pv 0 (upd H1 D (.lst [])))
    (hs : ∀ i H, i < n → Pv i H → g (.int (lo + i)) (wipe σ vs) H fun σ2 H2 => wipe σ2 vs = wipe σ vs ∧ tt σ2 H2 fun b H3 =>
      if b = true then te σ2 H3 fun y H4 => ∃ acc, H4 D = some (.lst acc) ∧ acc.length < sizeLine ∧ Pv (i + 1) (upd H4 D (.lst (acc ++ [y]))) else Pv (i + 1) H3) (hd : ∀ H, Pv n H → Qd H) :
    ∃ W : Nat → Nat → Hp → Prop, (∃ m, W 0 m (upd H1 D (.lst []))) ∧ ∀ i m H, W i m H →
      ((Itr lo n).stop i H ∧ Qd H) ∨ ((Itr lo n).go i H ∧ ∃ Nx : Hp → Prop, (∀ H', Nx H' → ∃ m', m' < m ∧ W (i + 1) m' H') ∧ ∀ x H', (Itr lo n).yld i H x H' → g x (wipe σ vs) H' fun σ2 H2 => wipe σ2 vs = wipe σ vs ∧ tt σ2 H2 fun b H3 =>
        if b = true then te σ2 H3 fun y H4 => ∃ acc, H4 D = some (.lst acc) ∧ acc.length < sizeLine ∧ Nx (upd H4 D (.lst (acc ++ [y]))) else Nx H3) := by
  refine ⟨fun i m H => m = n - i ∧ i ≤ n ∧ Pv i H, ⟨n, by simp, Nat.zero_le _, h0⟩, ?_⟩
  rintro i m H ⟨rfl, hi, p⟩
  by_cases hlt : i < n
  · refine .inr ⟨hlt, Pv (i + 1), fun H' p' => ⟨n - (i + 1), by omega, rfl, hlt, p'⟩, fun x H' y => ?_⟩
    obtain ⟨e, y⟩ := y
    subst e y
    exact hs i _ hlt p
  · have e : i = n := by omega
    subst e
    exact .inl ⟨Nat.le_refl _, hd H p⟩
/-- over a list that the block leaves as it is -/
theorem lc_list {K : PySem.W.Frag} {a : Addr} {xs : List V} {g : TG} {tt : TT} {te : TE} {vs : List Nat} {σ : St} {H1 : Hp} {D : Addr} {Qd : Hp → Prop} (Pv : Nat → Hp → Prop) (h0 : Pv 0 (upd H1 D (.lst []))) (hl : ∀ i H, i ≤ xs.length → Pv i H → SqL K H a xs)
    (hs : ∀ i x H, xs[i]? = some x → Pv i H → g x (wipe σ vs) H fun σ2 H2 => wipe σ2 vs = wipe σ vs ∧ tt σ2 H2 fun b H3 =>
      if b = true then te σ2 H3 fun y H4 => ∃ acc, H4 D = some (.lst acc) ∧ acc.length < sizeLine ∧ Pv (i + 1) (upd H4 D (.lst (acc ++ [y]))) else Pv (i + 1) H3) (hd : ∀ H, Pv xs.length H → Qd H) :
    ∃ W : Nat → Nat → Hp → Prop, (∃ m, W 0 m (upd H1 D (.lst []))) ∧ ∀ i m H, W i m H →
      ((Itl K a).stop i H ∧ Qd H) ∨ ((Itl K a).go i H ∧ ∃ Nx : Hp → Prop, (∀ H', Nx H' → ∃ m', m' < m ∧ W (i + 1) m' H') ∧ ∀ x H', (Itl K a).yld i H x H' → g x (wipe σ vs) H' fun σ2 H2 => wipe σ2 vs = wipe σ vs ∧ tt σ2 H2 fun b H3 =>
        if b = true then te σ2 H3 fun y H4 => ∃ acc, H4 D = some (.lst acc) ∧ acc.length < sizeLine ∧ Nx (upd H4 D (.lst (acc ++ [y]))) else Nx H3) := by
  refine ⟨fun i m H => m = xs.length - i ∧ i ≤ xs.length ∧ Pv i H, ⟨xs.length, by simp, Nat.zero_le _, h0⟩, ?_⟩
  rintro i m H ⟨rfl, hi, p⟩
  have q := hl i H hi p
  by_cases hlt : i < xs.length
  · refine .inr ⟨⟨xs, xs[i], q, by simp [hlt]⟩, Pv (i + 1), fun H' p' => ⟨xs.length - (i + 1), by omega, rfl, hlt, p'⟩, fun x H' y => ?_⟩
    obtain ⟨e, y⟩ := y
    subst e
    exact hs i x _ (y xs q) p
  · have e : i = xs.length := by omega
    subst e
    exact .inl ⟨⟨xs, q, Nat.le_refl _⟩, hd H p⟩
/-- over a tuple -/
theorem lc_tup {K : PySem.W.Frag} {a : Addr} {xs : List V} {g : TG} {tt : TT} {te : TE} {vs : List Nat} {σ : St} {H1 : Hp} {D : Addr} {Qd : Hp → Prop} (Pv : Nat → Hp → Prop) (h0 : Pv 0 (upd H1 D (.lst []))) (hl : ∀ i H, i ≤ xs.length → Pv i H → SqT K H a xs)
    (hs : ∀ i x H, xs[i]? = some x → Pv i H → g x (wipe σ vs) H fun σ2 H2 => wipe σ2 vs = wipe σ vs ∧ tt σ2 H2 fun b H3 =>
      if b = true then te σ2 H3 fun y H4 => ∃ acc, H4 D = some (.lst acc) ∧ acc.length < sizeLine ∧ Pv (i + 1) (upd H4 D (.lst (acc ++ [y]))) else Pv (i + 1) H3) (hd : ∀ H, Pv xs.length H → Qd H) :
    ∃ W : Nat → Nat → Hp → Prop, (∃ m, W 0 m (upd H1 D (.lst []))) ∧ ∀ i m H, W i m H →
      ((Itt K a).stop i H ∧ Qd H) ∨ ((Itt K a).go i H ∧ ∃ Nx : Hp → Prop, (∀ H', Nx H' → ∃ m', m' < m ∧ W (i + 1) m' H') ∧ ∀ x H', (Itt K a).yld i H x H' → g x (wipe σ vs) H' fun σ2 H2 => wipe σ2 vs = wipe σ vs ∧ tt σ2 H2 fun b H3 =>
        if b = true then te σ2 H3 fun y H4 => ∃ acc, H4 D = some (.lst acc) ∧ acc.length < sizeLine ∧ Nx (upd H4 D (.lst (acc ++ [y]))) else Nx H3) := by
  refine ⟨fun i m H => m = xs.length - i ∧ i ≤ xs.length ∧ Pv i H, ⟨xs.length, by simp, Nat.zero_le _, h0⟩, ?_⟩
  rintro i m H ⟨rfl, hi, p⟩
  have q := hl i H hi p
  by_cases hlt : i < xs.length
  · refine .inr ⟨⟨xs, xs[i], q, by simp [hlt]⟩, Pv (i + 1), fun H' p' => ⟨xs.length - (i + 1), by omega, rfl, hlt, p'⟩, fun x H' y => ?_⟩
    obtain ⟨e, y⟩ := y
    subst e
    exact hs i x _ (y xs q) p
  · have e : i = xs.length := by omega
    subst e
    exact .inl ⟨⟨xs, q, Nat.le_refl _⟩, hd H p⟩
def blkC (N : List Str) (sc scope : Scope) (own : List (Str × Nat)) : Bool :=
  (match scope.kind with | .function => true | _ => false) && (scope.names.all fun y => decide (scope.names.lookup y.1 = some y.2)) && (own.all fun p => decide (N[p.2]? = some p.1)) &&
    (scope.names.all fun y => match y.2 with
      | .free => (match sc.names.lookup y.1 with | some .cell => true | some .free => true | _ => false)
      | .local => decide (y.1 ∈ own.map (·.1)) || decide (y.1 ∉ N)
      | .cell => decide (y.1 ∈ own.map (·.1)) || decide (y.1 ∉ N)
      | _ => true)
theorem blkOk_by {N : List Str} {sc scope : Scope} {own : List (Str × Nat)} (h : blkC N sc scope own = true) : BlkOk N sc scope own := by
  unfold blkC at h
  simp only [Bool.and_eq_true, List.all_eq_true, decide_eq_true_eq] at h
  obtain ⟨⟨⟨h1, h2⟩, h3⟩, h4⟩ := h
  refine ⟨?_, h2, h3, fun y hy e => ?_, fun y hy e => ?_⟩
  · split at h1
    · assumption
    · cases h1
  · have q := h4 y hy
    simp only [e] at q
    split at q <;> first | exact .inl (by assumption) | exact .inr (by assumption) | cases q
  · have q := h4 y hy
    rcases e with e | e <;> (simp only [e, Bool.or_eq_true, decide_eq_true_eq] at q; exact q)
end L2

namespace L2
open PySem PySem.Spec PyProof.Rows

theorem compTurn2_out (elt t0 i0 t1 i1 : Expr) (ifs0 ifs1 : List Expr) (scope : Scope) (pos : Pos) (it acc : Value) (env : Env) :
    compTurn (.ListComp elt [⟨t0, i0, ifs0, 0⟩, ⟨t1, i1, ifs1, 0⟩] scope pos) 0 it acc env = (do
      standAt i0.pos
      match ← pyNext it with
      | none => pure (.done .next)
      | some v =>
        letOwnedTupleGo t0 it v
        assign t0 env v
        let mut ok := true
        for c in ifs0 do
          if ok then ok ← isTrue c env (eval c env)
        if ok then
          let x ← eval i1 env
          standAt i1.pos
          let x ← foldedSetIterable i1 env x
          let _ ← runOwn (.compStart (.ListComp elt [⟨t0, i0, ifs0, 0⟩, ⟨t1, i1, ifs1, 0⟩] scope pos) 1 (← holding [x] (pyIter x)) acc env) env
        again (.compLoop (.ListComp elt [⟨t0, i0, ifs0, 0⟩, ⟨t1, i1, ifs1, 0⟩] scope pos) 0 it acc env)) := by rfl
theorem compTurn2_in (elt t0 i0 t1 i1 : Expr) (ifs0 ifs1 : List Expr) (scope : Scope) (pos : Pos) (it acc : Value) (env : Env) :
    compTurn (.ListComp elt [⟨t0, i0, ifs0, 0⟩, ⟨t1, i1, ifs1, 0⟩] scope pos) 1 it acc env = (do
      standAt i1.pos
      match ← pyNext it with
      | none => pure (.done .next)
      | some v =>
        letOwnedTupleGo t1 it v
        assign t1 env v
        let mut ok := true
        for c in ifs1 do
          if ok then ok ← isTrue c env (eval c env)
        if ok then
          (do let _ ← call (.builtin "list.append") [acc, ← eval elt env])
        again (.compLoop (.ListComp elt [⟨t0, i0, ifs0, 0⟩, ⟨t1, i1, ifs1, 0⟩] scope pos) 1 it acc env)) := by rfl

section
variable {prog : Program} {w : World} {A : Around} {R : Result → Shared → Prop} {s : Shared} {elt t0 i0 t1 i1 : Expr} {ifs0 ifs1 : List Expr} {scope : Scope} {pos : Pos} {it acc : Value} {env : Env}
/-- the loop of the first clause -/
theorem compLoop2_out (hs : ∀ x, foldedSetIterable i1 env x = pure x) (I : Nat → Shared → Prop)
    (turn : ∀ n s, I n s → wpAny (model prog w) A (pyNext it) (fun r s₁ => match r with
      | none => R (.ok .next) s₁
      | some v => wpAny (model prog w) A (letOwnedTupleGo t0 it v) (fun _ s₁' => wpAny (model prog w) A (assign t0 env v) (fun _ s₂ =>
          wpAny (model prog w) A (forIn ifs0 true fun c r => if r = true then do let ok ← isTrue c env (eval c env); pure (ForInStep.yield ok) else pure (ForInStep.yield r)) (fun ok s₃ =>
            if ok = true then wpAny (model prog w) A (eval i1 env) (fun x s₄ => wpAny (model prog w) A (pyIter x) (fun it1 s₅ =>
              codeAny (model prog w) A (.compStart (.ListComp elt [⟨t0, i0, ifs0, 0⟩, ⟨t1, i1, ifs1, 0⟩] scope pos) 1 it1 acc env) (fun r s' => match r with
                | .ok _ => ∃ m, m < n ∧ I m s'
                | .error _ => False) s₅) (notedBy (model prog w) A env fun e s' => R (.error e) s') s₄) (notedBy (model prog w) A env fun e s' => R (.error e) s') s₃
            else ∃ m, m < n ∧ I m s₃) (notedBy (model prog w) A env fun e s' => R (.error e) s') s₂) (notedBy (model prog w) A env fun e s' => R (.error e) s') s₁') (notedBy (model prog w) A env fun e s' => R (.error e) s') s₁) (notedBy (model prog w) A env fun e s' => R (.error e) s') s)
    (n : Nat) (h : I n s) :
    codeAny (model prog w) A (.compLoop (.ListComp elt [⟨t0, i0, ifs0, 0⟩, ⟨t1, i1, ifs1, 0⟩] scope pos) 0 it acc env) R s := by
  refine codeAny_loop rfl I (fun n s hI => ?_) n h
  show wpAny _ A ((compTurn (.ListComp elt [⟨t0, i0, ifs0, 0⟩, ⟨t1, i1, ifs1, 0⟩] scope pos) 0 it acc env).onRaise (fun x => do noteFrame x env; theTreesLotGoes x)) _ _ s
  refine wpAny_noted ?_
  rw [compTurn2_out]
  refine wpAny_bind (wpAny_standAt (wpAny_bind (wpAny_mono (turn n s hI) (fun r s₁ h₁ => ?_) fun _ _ h' => h')))
  cases r with
  | none => exact wpAny_pure h₁
  | some v =>
    refine wpAny_bind (wpAny_mono h₁ (fun _ s₁' h₁' => ?_) fun _ _ h' => h')
    refine wpAny_bind (wpAny_mono h₁' (fun _ s₂ h₂ => wpAny_bind (wpAny_mono h₂ (fun ok s₃ h₃ => ?_) fun _ _ h' => h')) fun _ _ h' => h')
    cases ok with
    | false => exact wpAny_pure ⟨rfl, h₃⟩
    | true =>
      refine wpAny_bind (wpAny_mono h₃ (fun x s₄ h₄ => ?_) fun _ _ h' => h')
      refine wpAny_bind (wpAny_standAt (wpAny_bind (wpAny_of_eq (hs x) (wpAny_bind (wpAny_holding (wpAny_mono h₄ (fun it1 s₅ h₅ => ?_) fun _ _ h' => h'))))))
      refine wpAny_bind (wpAny_runOwn ?_)
      rw [Around.mark_none]
      refine codeAny_mono h₅ fun r s' hr => ?_
      cases r with
      | ok f =>
        first
          | exact wpAny_pure ⟨rfl, hr⟩
          | exact wpAny_bind (wpAny_pure (wpAny_pure ⟨rfl, hr⟩))
      | error e => exact hr.elim
/-- the loop of the second -/
theorem compLoop2_in (I : Nat → Shared → Prop)
    (turn : ∀ n s, I n s → wpAny (model prog w) A (pyNext it) (fun r s₁ => match r with
      | none => R (.ok .next) s₁
      | some v => wpAny (model prog w) A (letOwnedTupleGo t1 it v) (fun _ s₁' => wpAny (model prog w) A (assign t1 env v) (fun _ s₂ =>
          wpAny (model prog w) A (forIn ifs1 true fun c r => if r = true then do let ok ← isTrue c env (eval c env); pure (ForInStep.yield ok) else pure (ForInStep.yield r)) (fun ok s₃ =>
            if ok = true then wpAny (model prog w) A (eval elt env) (fun x s₄ =>
              wpAny (model prog w) A (call (.builtin "list.append") [acc, x]) (fun _ s₅ => ∃ m, m < n ∧ I m s₅) (notedBy (model prog w) A env fun e s' => R (.error e) s') s₄) (notedBy (model prog w) A env fun e s' => R (.error e) s') s₃
            else ∃ m, m < n ∧ I m s₃) (notedBy (model prog w) A env fun e s' => R (.error e) s') s₂) (notedBy (model prog w) A env fun e s' => R (.error e) s') s₁') (notedBy (model prog w) A env fun e s' => R (.error e) s') s₁) (notedBy (model prog w) A env fun e s' => R (.error e) s') s)
    (n : Nat) (h : I n s) :
    codeAny (model prog w) A (.compLoop (.ListComp elt [⟨t0, i0, ifs0, 0⟩, ⟨t1, i1, ifs1, 0⟩] scope pos) 1 it acc env) R s := by
  refine codeAny_loop rfl I (fun n s hI => ?_) n h
  show wpAny _ A ((compTurn (.ListComp elt [⟨t0, i0, ifs0, 0⟩, ⟨t1, i1, ifs1, 0⟩] scope pos) 1 it acc env).onRaise (fun x => do noteFrame x env; theTreesLotGoes x)) _ _ s
  refine wpAny_noted ?_
  rw [compTurn2_in]
  refine wpAny_bind (wpAny_standAt (wpAny_bind (wpAny_mono (turn n s hI) (fun r s₁ h₁ => ?_) fun _ _ h' => h')))
  cases r with
  | none => exact wpAny_pure h₁
  | some v =>
    refine wpAny_bind (wpAny_mono h₁ (fun _ s₁' h₁' => ?_) fun _ _ h' => h')
    refine wpAny_bind (wpAny_mono h₁' (fun _ s₂ h₂ => wpAny_bind (wpAny_mono h₂ (fun ok s₃ h₃ => ?_) fun _ _ h' => h')) fun _ _ h' => h')
    cases ok with
    | false => exact wpAny_pure ⟨rfl, h₃⟩
    | true =>
      exact wpAny_bind (wpAny_bind (wpAny_mono h₃ (fun x s₄ h₄ => wpAny_bind (wpAny_mono h₄ (fun _ s₅ h₅ => wpAny_pure (wpAny_pure ⟨rfl, h₅⟩)) fun _ _ h' => h')) fun _ _ h' => h'))
/-- the second clause's start -/
theorem compStart1_ok (h0 : codeAny (model prog w) A (.compLoop (.ListComp elt [⟨t0, i0, ifs0, 0⟩, ⟨t1, i1, ifs1, 0⟩] scope pos) 1 it acc env) R s)
    (h : wpAny (model prog w) A (pyIter it) (fun it' s' => codeAny (model prog w) A (.compLoop (.ListComp elt [⟨t0, i0, ifs0, 0⟩, ⟨t1, i1, ifs1, 0⟩] scope pos) 1 it' acc env) R s')
      (notedBy (model prog w) A env fun x s' => R (.error x) s') s) :
    codeAny (model prog w) A (.compStart (.ListComp elt [⟨t0, i0, ifs0, 0⟩, ⟨t1, i1, ifs1, 0⟩] scope pos) 1 it acc env) R s := by
  refine codeAny_of_tree ?_
  show wpAny _ _ ((compStart (.ListComp elt [⟨t0, i0, ifs0, 0⟩, ⟨t1, i1, ifs1, 0⟩] scope pos) 1 it acc env).onRaise (fun x => do noteFrame x env; standAt theWindowsPlace)) _ _ s
  refine wpAny_notedAt ?_
  unfold compStart
  show wpAny _ _ (ask >>= _) _ _ s
  refine wpAny_bind (wpAny_askSetting (wpAny_ite ?_))
  split
  · first
      | exact wpAny_bind (wpAny_pure (wpAny_pure (And.intro rfl h0)))
      | exact wpAny_pure (And.intro rfl h0)
  · first
      | exact wpAny_bind (wpAny_rule (wpAny_bind (wpAny_standAt (wpAny_bind (wpAny_mono h (fun it' s' h' => wpAny_pure (And.intro rfl h')) fun _ _ x => x)))))
      | (refine wpAny_bind (wpAny_rule ?_); show wpAny _ _ (standAt i1.pos >>= _) _ _ s; exact wpAny_bind (wpAny_standAt (wpAny_bind (wpAny_mono h (fun it' s' h' => wpAny_pure (And.intro rfl h')) fun _ _ x => x))))
end

theorem wipe_out {σ : St} {i : Nat} : ∀ {vs : List Nat}, i ∉ vs → (wipe σ vs)[i]? = σ[i]?
  | [], _ => rfl
  | v :: vs, h => by
    have h1 : v ≠ i := fun e => h (by rw [e]; exact List.mem_cons_self)
    have h2 : i ∉ vs := fun m => h (List.mem_cons_of_mem _ m)
    unfold wipe
    rw [List.getElem?_set_ne h1]
    exact wipe_out h2
section
variable {X : Cx}
/-- [elt for tg in iter if .. for tg1 in iter1 if ..]: behind the first clause's store and tests the second source's own loop, from which Nx is reached. vs: the block's names; vs1: those of the second target -/
def tLc2 (wi : TI) (g : TG) (tt : TT) (wi1 : TI) (g1 : TG) (tt1 : TT) (te : TE) (vs vs1 : List Nat) : TE := fun σ H Q => wi σ H fun J H1 => ∀ D, H1 D = none → ∃ W : Nat → Nat → Hp → Prop, (∃ m, W 0 m (upd H1 D (.lst []))) ∧ ∀ i m H, W i m H →
  (J.stop i H ∧ Q (.ref D) H) ∨ (J.go i H ∧ ∃ Nx : Hp → Prop, (∀ H', Nx H' → ∃ m', m' < m ∧ W (i + 1) m' H') ∧ ∀ x H', J.yld i H x H' → g x (wipe σ vs) H' fun σ2 H2 => wipe σ2 vs = wipe σ vs ∧ tt σ2 H2 fun b H3 =>
    if b = true then wi1 σ2 H3 fun J1 H4 => ∃ W1 : Nat → Nat → Hp → Prop, (∃ m, W1 0 m H4) ∧ ∀ j k H, W1 j k H →
      (J1.stop j H ∧ Nx H) ∨ (J1.go j H ∧ ∃ Nx1 : Hp → Prop, (∀ H', Nx1 H' → ∃ k', k' < k ∧ W1 (j + 1) k' H') ∧ ∀ x H', J1.yld j H x H' → g1 x (wipe σ2 vs1) H' fun σ3 H5 => wipe σ3 vs1 = wipe σ2 vs1 ∧ tt1 σ3 H5 fun b H6 =>
        if b = true then te σ3 H6 fun y H7 => ∃ acc, H7 D = some (.lst acc) ∧ acc.length < sizeLine ∧ Nx1 (upd H7 D (.lst (acc ++ [y]))) else Nx1 H6)
    else Nx H3)
theorem lc2_core {pins : List (Addr × Obj)} {s : Shared} {σ : St} {H : Hp} {Q : VK} {elt tg iter tg1 iter1 : Expr} {ifs ifs1 : List Expr} {scope : Scope} {own : List (Str × Nat)} {vs1 : List Nat} {pos pos' : Pos} {wi wi1 : TI} {g g1 : TG} {tt tt1 : TT} {te : TE} {use : Option (Value → Sem Unit)} {Qf : Value → Shared → Prop}
    (hc : X.calm = true) (hN : X.N.Nodup) (I : Inv X pins σ H s) (hi : PI X tg iter wi) (ok : BlkOk X.N X.env.scope scope own) (hv : ∀ i ∈ vs1, i ∈ own.map (·.2))
    (hg : ∀ (s : Shared) (H : Hp) (C : Addr) (cl : List (Str × Addr)) (fp : List Addr), PG (X.blk s H scope (compEnvC scope cl C X.env) fp) tg g) (ht : ∀ (s : Shared) (H : Hp) (C : Addr) (cl : List (Str × Addr)) (fp : List Addr), PTs (X.blk s H scope (compEnvC scope cl C X.env) fp) ifs tt)
    (he : ∀ (s : Shared) (H : Hp) (C : Addr) (cl : List (Str × Addr)) (fp : List Addr), PE (X.blk s H scope (compEnvC scope cl C X.env) fp) elt te) (hs : ∀ x, foldedSetIterable iter X.env x = pure x)
    (hi1 : ∀ (s : Shared) (H : Hp) (C : Addr) (cl : List (Str × Addr)) (fp : List Addr), PI (X.blk s H scope (compEnvC scope cl C X.env) fp) tg1 iter1 wi1)
    (hg1 : ∀ (s : Shared) (H : Hp) (C : Addr) (cl : List (Str × Addr)) (fp : List Addr), PG (X.blk s H scope (compEnvC scope cl C X.env) fp) tg1 g1)
    (ht1 : ∀ (s : Shared) (H : Hp) (C : Addr) (cl : List (Str × Addr)) (fp : List Addr), PTs (X.blk s H scope (compEnvC scope cl C X.env) fp) ifs1 tt1)
    (hs1 : ∀ env x, foldedSetIterable iter1 env x = pure x)
    (h : tLc2 wi g tt wi1 g1 tt1 te (own.map (·.2)) vs1 σ H Q)
    (hRR : ∀ D C s' m H', Inv X pins σ H' s' → Q (.ref D) H' → s'.heap.Ns C m → FpOk X pins H' C → compPost (model X.prog X.w) X.A X.xe use Qf (.ref D) C (.ok .next) s') :
    wpAny (model X.prog X.w) X.A (comprehension (.ListComp elt [⟨tg, iter, ifs, 0⟩, ⟨tg1, iter1, ifs1, 0⟩] scope pos) scope X.env pos' (newList []) false (eval iter X.env) use) Qf X.xe s := by
  have hfree : ∀ y ∈ scope.names, y.2 = .free → ∃ c, X.env.cells.lookup y.1 = some c := fun y hy e => by
    rcases ok.free y hy e with k | k
    · exact I.ok.has _ (.inl k)
    · exact I.ok.has _ (.inr k)
  refine wpAny_comprehension_free (use := use) rfl hs (closure_ok hfree) ok.kind (fun y hy e => by rw [ok.uniq y hy, e])
    (thn (hi pins s σ H _ I h) fun xv s1 hx => thn hx fun itv s2 h2 => ?_)
  obtain ⟨it, fp, tn, J, H2, e, I2, T, st2, f2, q⟩ := h2
  subst e
  refine wpAny_newObj_type (newEnv_comp ?_) (by show 0 ≤ sizeLine; decide)
  generalize hD : s2.heap.objs.size = D
  have hDn : H2 D = none := I2.hok.fresh (Nat.le_of_eq hD)
  obtain ⟨W, ⟨m0, w0⟩, turn⟩ := q D hDn
  -- the new list
  generalize hs3 : ({ s2 with heap := s2.heap.push { cls := .type "list", data := .seq ([] : List Value).toArray } } : Shared) = s3
  have I3 : Inv X pins σ (upd H2 D (.lst [])) s3 := by
    rw [← hs3]
    refine I2.laid (t' := s2.toks) (fun b o e => Heap.get?_push_of_some _ e) (Nat.le_of_eq hD) ⟨Nat.zero_le _, [], 0, .nil, ?_⟩
    rw [← hD]
    exact Heap.get?_push_size _ rfl
  have h3 : s3.heap = s2.heap.push { cls := .type "list", data := .seq ([] : List Value).toArray } := by rw [← hs3]
  have sz : ∀ b ∈ fp, b < s2.heap.objs.size := fun b hb => by
    obtain ⟨o, e, _⟩ := T.obj _ _ st2 b hb
    exact Heap.lt_size e
  have f3 : ∀ b ∈ fp, FpOk X pins (upd H2 D (.lst [])) b ∧ b < s3.heap.objs.size := fun b hb => by
    have hlt := sz b hb
    refine ⟨⟨?_, (f2 b hb).2⟩, by rw [h3, Heap.size_push]; exact Nat.lt_succ_of_lt hlt⟩
    rw [upd_ne (by rw [← hD]; exact Nat.ne_of_lt hlt)]
    exact (f2 b hb).1
  have st3 : tn 0 s3.heap := T.keep _ _ _ st2 fun b _ o e => by rw [h3]; exact Heap.get?_push_of_some _ e
  have I4 := block_start I3 ok hN f3
  have pg := hg s3 (upd H2 D (.lst [])) s3.heap.objs.size (cellsFrom (s3.heap.objs.size + 1) scope.names (cloFrom X.env.cells scope.names [])) fp
  have pt := ht s3 (upd H2 D (.lst [])) s3.heap.objs.size (cellsFrom (s3.heap.objs.size + 1) scope.names (cloFrom X.env.cells scope.names [])) fp
  have pe := he s3 (upd H2 D (.lst [])) s3.heap.objs.size (cellsFrom (s3.heap.objs.size + 1) scope.names (cloFrom X.env.cells scope.names [])) fp
  have pi1 := hi1 s3 (upd H2 D (.lst [])) s3.heap.objs.size (cellsFrom (s3.heap.objs.size + 1) scope.names (cloFrom X.env.cells scope.names [])) fp
  have pg1 := hg1 s3 (upd H2 D (.lst [])) s3.heap.objs.size (cellsFrom (s3.heap.objs.size + 1) scope.names (cloFrom X.env.cells scope.names [])) fp
  have pt1 := ht1 s3 (upd H2 D (.lst [])) s3.heap.objs.size (cellsFrom (s3.heap.objs.size + 1) scope.names (cloFrom X.env.cells scope.names [])) fp
  show codeAny _ _ (.compStart (.ListComp elt [⟨tg, iter, ifs, 0⟩, ⟨tg1, iter1, ifs1, 0⟩] scope pos) 0 (.ref it) (.ref D) (compEnvC scope (cellsFrom (s3.heap.objs.size + 1) scope.names (cloFrom X.env.cells scope.names [])) s3.heap.objs.size X.env)) (compPost (model X.prog X.w) X.A X.xe use Qf (.ref D) s3.heap.objs.size) { s3 with heap := pushCells (s3.heap.push { cls := .type "dict", data := .dict #[] }) scope.names }
  have nfp : ∀ b ∈ fp, (upd H2 D (.lst [])) b = none := fun b hb => (f3 b hb).1.1
  generalize hce : compEnvC scope (cellsFrom (s3.heap.objs.size + 1) scope.names (cloFrom X.env.cells scope.names [])) s3.heap.objs.size X.env = ce at I4 pg pt pe pi1 pg1 pt1 ⊢
  have cL : ce.locals = s3.heap.objs.size := by subst hce; rfl
  generalize hH3 : upd H2 D (.lst []) = H3 at I3 I4 pg pt pe pi1 pg1 pt1 w0 nfp f3
  generalize hs4 : ({ s3 with heap := pushCells (s3.heap.push { cls := .type "dict", data := .dict #[] }) scope.names } : Shared) = s4 at I4 ⊢
  have st4 : tn 0 s4.heap := T.keep _ _ _ st3 fun b _ o e => by rw [← hs4]; exact pushCells_keeps _ _ _ _ (Heap.get?_push_of_some _ e)
  have stat : ∀ {σ' : St} {H' : Hp} {s' : Shared}, Inv (X.blk s3 H3 scope ce fp) [] σ' H' s' → (∀ b ∈ fp, H' b = none) → ∀ b ∈ fp, FpOk (X.blk s3 H3 scope ce fp) [] H' b := fun {σ' H' s'} I' hn b hb =>
    ⟨hn b hb, (I'.ok.exf b hb).1, I'.ok.exfs b hb, .inl hb, fun x c e => (I'.ok.exf b hb).2 x c e, fun p hp => absurd (show p ∈ ([] : List (Addr × Obj)) ++ [] from hp) (by simp)⟩
  have loop : codeAny (model X.prog X.w) X.A (.compLoop (.ListComp elt [⟨tg, iter, ifs, 0⟩, ⟨tg1, iter1, ifs1, 0⟩] scope pos) 0 (.ref it) (.ref D) ce) (compPost (model X.prog X.w) X.A X.xe use Qf (.ref D) s3.heap.objs.size) s4 := by
    refine compLoop2_out (hs1 ce) (fun n s' => ∃ i H', Inv (X.blk s3 H3 scope ce fp) [] (wipe σ (own.map (·.2))) H' s' ∧ tn i s'.heap ∧ (∀ b ∈ fp, H' b = none) ∧ W i n H') ?_ m0 ⟨0, H3, I4, st4, nfp, w0⟩
    rintro n s5 ⟨i, H5, I5, st5, n5, w5⟩
    rcases turn i n H5 w5 with ⟨stop, qq⟩ | ⟨go, Nx, hNx, step⟩
    · have td := T.done (X.blk s3 H3 scope ce fp) rfl rfl rfl hc i [] s5 _ H5 (fun _ _ => False) I5 (stat I5 n5) st5 stop
      refine thnF td fun r s6 ⟨hr, I6⟩ => ?_
      subst hr
      -- back in the def's context
      have I7 : Inv X pins σ H5 s6 := I3.call' (ch := fp) I6.os I6.base I6.hok I6.bare fun b hb => ⟨(f3 b hb).1.2.2.2.1, (f3 b hb).1.2.1, (f3 b hb).1.2.2.2.2.1, (f3 b hb).1.2.2.2.2.2⟩
      have nC : H5 s3.heap.objs.size = none := by
        have z : H5 ce.locals = none := I6.free
        rw [cL] at z
        exact z
      obtain ⟨m, hn, _⟩ := I6.loc
      have hn : s6.heap.Ns ce.locals m := hn
      rw [cL] at hn
      exact hRR D s3.heap.objs.size s6 m H5 I7 qq hn (I3.fpOk (Nat.le_refl _) nC)
    · have ti := T.item (X.blk s3 H3 scope ce fp) rfl rfl rfl hc i [] s5 _ H5 (fun _ _ => False) I5 (stat I5 n5) st5 go
      refine thnF ti fun r s6 ⟨u, hr, h6⟩ => ?_
      subst hr
      refine thnF h6 fun _ s7 ⟨x, H7, I7, r7, y7, st7, n7⟩ => ?_
      have I7' := I7.pinned (stat I7 n7) (T.obj _ _ st7)
      refine thnF (pg _ s7 _ H7 x u _ I7' r7 (step x H7 y7)) fun _ s8 ⟨σ8, H8, I8, hw8, q8⟩ => ?_
      refine thnF (pt _ s8 σ8 H8 _ I8 q8) fun b s9 ⟨H9, I9, q9⟩ => ?_
      -- the turn's end, from any slots that know what the block knew at its start
      have fin : ∀ {σ9 : St} {s' : Shared} {H' : Hp}, Inv (X.blk s3 H3 scope ce fp) ([] ++ pinsAt fp s7.heap) σ9 H' s' → (wipe σ (own.map (·.2))).length = σ9.length → (∀ (j : Nat) v, (wipe σ (own.map (·.2)))[j]? = some (some v) → σ9[j]? = some (some v)) → Nx H' →
          ∃ m, m < n ∧ ∃ i H', Inv (X.blk s3 H3 scope ce fp) [] (wipe σ (own.map (·.2))) H' s' ∧ tn i s'.heap ∧ (∀ b ∈ fp, H' b = none) ∧ W i m H' := fun {σ9 s' H'} I' hl hk nx => by
        obtain ⟨m', hm, w'⟩ := hNx H' nx
        have pin' : ∀ b ∈ fp, ∀ o, s7.heap.get? b = some o → s'.heap.get? b = some o ∧ H' b = none := fun b hb o e =>
          let z := I'.pin (b, o) (List.mem_append_right _ (List.mem_append_right _ (mem_pinsAt hb e)))
          ⟨z.1, z.2.1⟩
        refine ⟨m', hm, i + 1, H', (I'.unpinned (pins := [])).weak hl hk, T.keep _ _ _ st7 fun b hb o e => (pin' b hb o e).1, fun b hb => ?_, w'⟩
        obtain ⟨o, e, _⟩ := T.obj _ _ st7 b hb
        exact (pin' b hb o e).2
      have hl8 : (wipe σ (own.map (·.2))).length = σ8.length := by rw [← hw8, wipe_length]
      have hk8 : ∀ (j : Nat) v, (wipe σ (own.map (·.2)))[j]? = some (some v) → σ8[j]? = some (some v) := fun j v e => by
        rw [← hw8] at e
        exact (wipe_some e).1
      have hk9 : ∀ (j : Nat) v, (wipe σ (own.map (·.2)))[j]? = some (some v) → (wipe σ8 vs1)[j]? = some (some v) := fun j v e => by
        rw [← hw8] at e
        obtain ⟨e1, e2⟩ := wipe_some e
        rw [wipe_out fun z => e2 (hv j z)]
        exact e1
      cases b with
      | false =>
        simp only [Bool.false_eq_true, if_false] at q9 ⊢
        exact fin I9 hl8 hk8 q9
      | true =>
        simp only [if_true] at q9 ⊢
        refine thnF (pi1 _ s9 σ8 H9 _ I9 q9) fun xv s10 hx => thnF hx fun itv s11 h11 => ?_
        obtain ⟨it1, fp1, tn1, J1, H11, e1, I11, T1, st11, f11, W1, ⟨m1, w1⟩, turn1⟩ := h11
        subst e1
        -- the inner loop
        have stat1 : ∀ {H' : Hp}, (∀ b ∈ fp1, H' b = none) → ∀ b ∈ fp1, FpOk (X.blk s3 H3 scope ce fp) ([] ++ pinsAt fp s7.heap) H' b := fun hn b hb => ⟨hn b hb, (f11 b hb).2⟩
        have loop1 : codeAny (model X.prog X.w) X.A (.compLoop (.ListComp elt [⟨tg, iter, ifs, 0⟩, ⟨tg1, iter1, ifs1, 0⟩] scope pos) 1 (.ref it1) (.ref D) ce)
            (fun r s' => match r with
              | .ok _ => ∃ m, m < n ∧ ∃ i H', Inv (X.blk s3 H3 scope ce fp) [] (wipe σ (own.map (·.2))) H' s' ∧ tn i s'.heap ∧ (∀ b ∈ fp, H' b = none) ∧ W i m H'
              | .error _ => False) s11 := by
          refine compLoop2_in (fun k s' => ∃ j H', Inv (X.blk s3 H3 scope ce fp) ([] ++ pinsAt fp s7.heap) (wipe σ8 vs1) H' s' ∧ tn1 j s'.heap ∧ (∀ b ∈ fp1, H' b = none) ∧ W1 j k H') ?_ m1 ⟨0, H11, I11.weak (wipe_length _ _) (fun j v e => (wipe_some e).1), st11, fun b hb => (f11 b hb).1, w1⟩
          rintro k s12 ⟨j, H12, I12, st12, n12, w12⟩
          rcases turn1 j k H12 w12 with ⟨stop1, nx1⟩ | ⟨go1, Nx1, hNx1, step1⟩
          · refine thnF (T1.done (X.blk s3 H3 scope ce fp) rfl rfl rfl hc j _ s12 (wipe σ8 vs1) H12 (fun _ _ => False) I12 (stat1 n12) st12 stop1) fun r s13 ⟨hr, I13⟩ => ?_
            subst hr
            exact fin I13 (hl8.trans (wipe_length σ8 vs1).symm) hk9 nx1
          · refine thnF (T1.item (X.blk s3 H3 scope ce fp) rfl rfl rfl hc j _ s12 (wipe σ8 vs1) H12 (fun _ _ => False) I12 (stat1 n12) st12 go1) fun r s13 ⟨u1, hr, h13⟩ => ?_
            subst hr
            refine thnF h13 fun _ s14 ⟨x1, H14, I14, r14, y14, st14, n14⟩ => ?_
            have I14' := I14.pinned (stat1 n14) (T1.obj _ _ st14)
            refine thnF (pg1 _ s14 (wipe σ8 vs1) H14 x1 u1 _ I14' r14 (step1 x1 H14 y14)) fun _ s15 ⟨σ15, H15, I15, hw15, q15⟩ => ?_
            refine thnF (pt1 _ s15 σ15 H15 _ I15 q15) fun b1 s16 ⟨H16, I16, q16⟩ => ?_
            have fin1 : ∀ {s' : Shared} {H' : Hp}, Inv (X.blk s3 H3 scope ce fp) (([] ++ pinsAt fp s7.heap) ++ pinsAt fp1 s14.heap) σ15 H' s' → Nx1 H' → ∃ m, m < k ∧ ∃ j H', Inv (X.blk s3 H3 scope ce fp) ([] ++ pinsAt fp s7.heap) (wipe σ8 vs1) H' s' ∧ tn1 j s'.heap ∧ (∀ b ∈ fp1, H' b = none) ∧ W1 j m H' := fun {s' H'} I' nx => by
              obtain ⟨m', hm, w'⟩ := hNx1 H' nx
              have pin' : ∀ b ∈ fp1, ∀ o, s14.heap.get? b = some o → s'.heap.get? b = some o ∧ H' b = none := fun b hb o e =>
                let z := I'.pin (b, o) (List.mem_append_right _ (List.mem_append_right _ (mem_pinsAt hb e)))
                ⟨z.1, z.2.1⟩
              refine ⟨m', hm, j + 1, H', I'.unpinned.weak (by rw [← hw15, wipe_length]) (fun j v e => by rw [← hw15] at e; exact (wipe_some e).1), T1.keep _ _ _ st14 fun b hb o e => (pin' b hb o e).1, fun b hb => ?_, w'⟩
              obtain ⟨o, e, _⟩ := T1.obj _ _ st14 b hb
              exact (pin' b hb o e).2
            cases b1 with
            | false =>
              simp only [Bool.false_eq_true, if_false] at q16 ⊢
              exact fin1 I16 q16
            | true =>
              simp only [if_true] at q16 ⊢
              refine thnF (pe _ s16 σ15 H16 _ I16 q16) fun z s17 ⟨yv, H17, I17, r17, acc, hD17, hz17, nx⟩ => ?_
              exact app_ok (X := X.blk s3 H3 scope ce fp) I17 hD17 hz17 r17 fun s18 I18 => fin1 I18 nx
        exact compStart1_ok loop1 (T1.self X.A 0 _ _ _ st11 loop1)
  exact codeAny_compStart_list loop (T.self X.A 0 _ _ _ st4 loop)
/-- as a value -/
theorem pe_lc2 {elt tg iter tg1 iter1 : Expr} {ifs ifs1 : List Expr} {scope : Scope} {own : List (Str × Nat)} {vs1 : List Nat} {pos : Pos} {wi wi1 : TI} {g g1 : TG} {tt tt1 : TT} {te : TE} (hc : X.calm = true) (hN : X.N.Nodup) (hi : PI X tg iter wi) (ok : BlkOk X.N X.env.scope scope own) (hv : ∀ i ∈ vs1, i ∈ own.map (·.2))
    (hg : ∀ (s : Shared) (H : Hp) (C : Addr) (cl : List (Str × Addr)) (fp : List Addr), PG (X.blk s H scope (compEnvC scope cl C X.env) fp) tg g) (ht : ∀ (s : Shared) (H : Hp) (C : Addr) (cl : List (Str × Addr)) (fp : List Addr), PTs (X.blk s H scope (compEnvC scope cl C X.env) fp) ifs tt)
    (hi1 : ∀ (s : Shared) (H : Hp) (C : Addr) (cl : List (Str × Addr)) (fp : List Addr), PI (X.blk s H scope (compEnvC scope cl C X.env) fp) tg1 iter1 wi1)
    (hg1 : ∀ (s : Shared) (H : Hp) (C : Addr) (cl : List (Str × Addr)) (fp : List Addr), PG (X.blk s H scope (compEnvC scope cl C X.env) fp) tg1 g1) (ht1 : ∀ (s : Shared) (H : Hp) (C : Addr) (cl : List (Str × Addr)) (fp : List Addr), PTs (X.blk s H scope (compEnvC scope cl C X.env) fp) ifs1 tt1)
    (he : ∀ (s : Shared) (H : Hp) (C : Addr) (cl : List (Str × Addr)) (fp : List Addr), PE (X.blk s H scope (compEnvC scope cl C X.env) fp) elt te) (hs : ∀ x, foldedSetIterable iter X.env x = pure x := by intro _; rfl) (hs1 : ∀ env x, foldedSetIterable iter1 env x = pure x := by intro _ _; rfl) :
    PE X (.ListComp elt [⟨tg, iter, ifs, 0⟩, ⟨tg1, iter1, ifs1, 0⟩] scope pos) (tLc2 wi g tt wi1 g1 tt1 te (own.map (·.2)) vs1) := by
  intro pins s σ H Q I h
  rw [eval_ListComp]
  refine lc2_core hc hN I hi ok hv hg ht he hs hi1 hg1 ht1 hs1 h fun D C s' m H' I' q hn f => ⟨m, hn, fun h'' sb => ?_⟩
  obtain ⟨f0, f1, f2, f3, f4, f5⟩ := f
  exact ⟨.ref D, H', I'.turned (t' := s'.toks) (fun b o hb e => (sb.2 b hb).trans e) f0 f1 f3 f4 f5, rfl, q⟩
theorem ps_setLc2 {i : Nat} {y : Str} {py : Pos} {elt tg iter tg1 iter1 : Expr} {ifs ifs1 : List Expr} {scope : Scope} {own : List (Str × Nat)} {vs1 : List Nat} {pos spos : Pos} {wi wi1 : TI} {g g1 : TG} {tt tt1 : TT} {te : TE} (hc : X.calm = true) (hN : X.N.Nodup) (hy : X.N[i]? = some y) (hyl : X.env.scope.names.lookup y = some .local)
    (hsw : swapsWith (.ListComp elt [⟨tg, iter, ifs, 0⟩, ⟨tg1, iter1, ifs1, 0⟩] scope pos) (some (.Name y py)) spos.line X.env = pure true) (hi : PI X tg iter wi) (ok : BlkOk X.N X.env.scope scope own) (hv : ∀ i ∈ vs1, i ∈ own.map (·.2))
    (hg : ∀ (s : Shared) (H : Hp) (C : Addr) (cl : List (Str × Addr)) (fp : List Addr), PG (X.blk s H scope (compEnvC scope cl C X.env) fp) tg g) (ht : ∀ (s : Shared) (H : Hp) (C : Addr) (cl : List (Str × Addr)) (fp : List Addr), PTs (X.blk s H scope (compEnvC scope cl C X.env) fp) ifs tt)
    (hi1 : ∀ (s : Shared) (H : Hp) (C : Addr) (cl : List (Str × Addr)) (fp : List Addr), PI (X.blk s H scope (compEnvC scope cl C X.env) fp) tg1 iter1 wi1)
    (hg1 : ∀ (s : Shared) (H : Hp) (C : Addr) (cl : List (Str × Addr)) (fp : List Addr), PG (X.blk s H scope (compEnvC scope cl C X.env) fp) tg1 g1) (ht1 : ∀ (s : Shared) (H : Hp) (C : Addr) (cl : List (Str × Addr)) (fp : List Addr), PTs (X.blk s H scope (compEnvC scope cl C X.env) fp) ifs1 tt1)
    (he : ∀ (s : Shared) (H : Hp) (C : Addr) (cl : List (Str × Addr)) (fp : List Addr), PE (X.blk s H scope (compEnvC scope cl C X.env) fp) elt te) (hs : ∀ x, foldedSetIterable iter X.env x = pure x := by intro _; rfl) (hs1 : ∀ env x, foldedSetIterable iter1 env x = pure x := by intro _ _; rfl) :
    PS X (.Assign [.Name y py] (.ListComp elt [⟨tg, iter, ifs, 0⟩, ⟨tg1, iter1, ifs1, 0⟩] scope pos) spos) (tAsg (tLc2 wi g tt wi1 g1 tt1 te (own.map (·.2)) vs1) (gName i)) := by
  intro pins s σ H D I h
  rw [exec_Assign_Name_used _ _ _ _ hsw]
  refine wpAny_bind (wpAny_standAt (wpAny_bind ?_))
  show wpAny _ X.A (do let _ ← comprehension (.ListComp elt [⟨tg, iter, ifs, 0⟩, ⟨tg1, iter1, ifs1, 0⟩] scope pos) scope X.env (firstIterPos [⟨tg, iter, ifs, 0⟩, ⟨tg1, iter1, ifs1, 0⟩] pos) (newList []) false (eval iter X.env) (some (assign (.Name y py) X.env))) _ _ s
  have h : tLc2 wi g tt wi1 g1 tt1 te (own.map (·.2)) vs1 σ H (fun x H1 => gName i x σ H1 D.nx) := h
  refine wpAny_bind (thn (lc2_core (Qf := fun _ s' => SP X pins D .next s') hc hN I hi ok hv hg ht he hs hi1 hg1 ht1 hs1 h fun L C s' m H' I' q hn f => ?_) fun _ s' hq => wpAny_pure (wpAny_pure hq))
  show wpAny _ _ (assign (.Name y py) X.env (.ref L)) _ _ _
  refine wpAny_assign_Name (store_ok2 (v := V.ref L) I' hN hy (.inl hyl) rfl (fun s2 I2 ⟨a, sb, ha⟩ => ?_) (.inr hyl))
  obtain ⟨f0, f1, f2, f3, f4, f5⟩ := f
  have haC : C ≠ a := by
    rcases ha with z | z
    · rw [z]; exact f1
    · exact fun e => f4 y a z e.symm
  refine ⟨m, hn.sameBut sb haC, fun h3 sb3 => ?_⟩
  exact ⟨_, H', I2.turned (t' := s2.toks) (fun b o hb e => (sb3.2 b hb).trans e) f0 f1 f3 f4 f5, q⟩
end
end L2

namespace L2
open PySem PySem.Spec PyProof.Rows

/-! ### lists of pairs as tables -/
section
variable {κ : Type} [DecidableEq κ]
def valV (kvs : List (κ × V)) (k : κ) : Option V := (kvs.find? fun kv => decide (kv.1 = k)).map (·.2)
/-- in its place, or at the end -/
def putK (kvs : List (κ × V)) (k : κ) (v : V) : List (κ × V) :=
  if (kvs.any fun kv => decide (kv.1 = k)) = true then kvs.map (fun kv => if kv.1 = k then (kv.1, v) else kv) else kvs ++ [(k, v)]
def dropK (kvs : List (κ × V)) (k : κ) : List (κ × V) := kvs.filter fun kv => decide (kv.1 ≠ k)

theorem valV_nil {k : κ} : valV ([] : List (κ × V)) k = none := rfl
theorem valV_pos {p : κ × V} {r : List (κ × V)} {k : κ} (e : p.1 = k) : valV (p :: r) k = some p.2 := by simp [valV, List.find?_cons, e]
theorem valV_neg {p : κ × V} {r : List (κ × V)} {k : κ} (e : ¬ p.1 = k) : valV (p :: r) k = valV r k := by simp [valV, List.find?_cons, e]
theorem valV_any (k : κ) : ∀ kvs : List (κ × V), (kvs.any fun kv => decide (kv.1 = k)) = (valV kvs k).isSome
  | [] => rfl
  | p :: r => by
    rw [List.any_cons]
    by_cases e : p.1 = k
    · simp only [valV_pos e, decide_eq_true e, Bool.true_or, Option.isSome_some]
    · rw [valV_neg e, decide_eq_false e, Bool.false_or]; exact valV_any k r
theorem valV_map (k j : κ) (y : V) : ∀ kvs : List (κ × V), valV (kvs.map fun kv => if kv.1 = k then (kv.1, y) else kv) j = (valV kvs j).map fun x => if j = k then y else x
  | [] => rfl
  | p :: r => by
    have ih := valV_map k j y r
    rw [List.map_cons]
    by_cases h : p.1 = k
    · rw [if_pos h]
      by_cases e : p.1 = j
      · rw [valV_pos (p := (p.1, y)) e, valV_pos e, Option.map_some, if_pos (e.symm.trans h)]
      · rw [valV_neg (p := (p.1, y)) e, valV_neg e, ih]
    · rw [if_neg h]
      by_cases e : p.1 = j
      · rw [valV_pos (p := p) e, valV_pos e, Option.map_some, if_neg (fun z => h (e.trans z))]
      · rw [valV_neg (p := p) e, valV_neg e, ih]
theorem valV_snoc (k j : κ) (y : V) : ∀ kvs : List (κ × V), valV kvs k = none → valV (kvs ++ [(k, y)]) j = if j = k then some y else valV kvs j
  | [], _ => by
    by_cases e : k = j
    · rw [if_pos e.symm]; exact valV_pos (p := (k, y)) e
    · rw [if_neg (fun z => e z.symm)]; exact valV_neg (p := (k, y)) e
  | p :: r, hn => by
    rw [List.cons_append]
    have hk : ¬ p.1 = k := fun z => by rw [valV_pos z] at hn; cases hn
    rw [valV_neg hk] at hn
    have ih := valV_snoc k j y r hn
    by_cases e : p.1 = j
    · rw [valV_pos e, valV_pos e, if_neg (fun z => hk (e.trans z))]
    · rw [valV_neg e, valV_neg e, ih]
theorem valV_put (kvs : List (κ × V)) (k j : κ) (y : V) : valV (putK kvs k y) j = if j = k then some y else valV kvs j := by
  unfold putK
  by_cases a : (kvs.any fun kv => decide (kv.1 = k)) = true
  · rw [if_pos a, valV_map]
    rw [valV_any] at a
    by_cases e : j = k
    · obtain ⟨x, hx⟩ := Option.isSome_iff_exists.mp a
      rw [if_pos e, e, hx, Option.map_some, if_pos rfl]
    · rw [if_neg e]
      cases valV kvs j with
      | none => rfl
      | some x => rw [Option.map_some, if_neg e]
  · rw [if_neg a]
    refine valV_snoc k j y kvs ?_
    rw [valV_any] at a
    cases q : valV kvs k with
    | none => rfl
    | some x => rw [q] at a; exact (a rfl).elim
theorem length_putK (kvs : List (κ × V)) (k : κ) (v : V) : (putK kvs k v).length ≤ kvs.length + 1 := by
  unfold putK
  split
  · rw [List.length_map]; omega
  · rw [List.length_append, List.length_cons, List.length_nil]; omega
theorem putK_new {kvs : List (κ × V)} {k : κ} (v : V) (h : valV kvs k = none) : putK kvs k v = kvs ++ [(k, v)] := by
  unfold putK
  rw [valV_any, h]
  exact if_neg (by decide)

theorem RelO.isSome_eq {o : Option V} {u : Option Value} (r : RelO o u) : o.isSome = u.isSome := by
  cases o with
  | none => cases u with
    | none => rfl
    | some _ => exact (show False from r).elim
  | some _ => cases u with
    | none => exact (show False from r).elim
    | some _ => rfl
theorem RelO.getD {o : Option V} {u : Option Value} {d : V} {d' : Value} (r : RelO o u) (rd : RelV d d') : RelV (o.getD d) (u.getD d') := by
  cases o with
  | none => cases u with
    | none => exact rd
    | some _ => exact (show False from r).elim
  | some _ => cases u with
    | none => exact (show False from r).elim
    | some _ => exact r

/-- raw tables of the same keys -/
theorem KV.val {kvs : List (κ × V)} {vs : List (κ × Value)} (r : KV kvs vs) (k : κ) : RelO (valV kvs k) (valueAt vs k) := by
  unfold KV at r
  induction r with
  | nil => exact True.intro
  | @cons p q ps qs h t ih =>
    obtain ⟨h1, h2⟩ := h
    by_cases e : p.1 = k
    · have e' : q.1 = k := h1.symm.trans e
      have b : valueAt (q :: qs) k = some q.2 := by simp [valueAt, List.find?_cons, e']
      rw [valV_pos e, b]; exact h2
    · have e' : ¬ q.1 = k := fun z => e (h1.trans z)
      have b : valueAt (q :: qs) k = valueAt qs k := by simp [valueAt, List.find?_cons, e']
      rw [valV_neg e, b]; exact ih
theorem KV.any {kvs : List (κ × V)} {vs : List (κ × Value)} (r : KV kvs vs) (k : κ) : (kvs.any fun kv => decide (kv.1 = k)) = vs.any fun kv => decide (kv.1 = k) := by
  unfold KV at r
  induction r with
  | nil => rfl
  | cons h t ih => rw [List.any_cons, List.any_cons, ih, h.1]
theorem KV.repl {kvs : List (κ × V)} {vs : List (κ × Value)} (r : KV kvs vs) (k : κ) {y : V} {u : Value} (ry : RelV y u) :
    KV (kvs.map fun kv => if kv.1 = k then (kv.1, y) else kv) (vs.map fun kv => if kv.1 = k then (kv.1, u) else kv) := by
  unfold KV at r ⊢
  induction r with
  | nil => exact .nil
  | @cons p q ps qs h t ih =>
    rw [List.map_cons, List.map_cons]
    refine .cons ?_ ih
    obtain ⟨h1, h2⟩ := h
    by_cases e : p.1 = k
    · rw [if_pos e, if_pos (h1.symm.trans e)]; exact ⟨h1, ry⟩
    · rw [if_neg e, if_neg (fun z => e (h1.trans z))]; exact ⟨h1, h2⟩
theorem KV.put {kvs : List (κ × V)} {vs : List (κ × Value)} (r : KV kvs vs) (k : κ) {y : V} {u : Value} (ry : RelV y u) : KV (putK kvs k y) (stored vs k u) := by
  unfold putK stored
  rw [r.any k]
  by_cases e : (vs.any fun kv => decide (kv.1 = k)) = true
  · rw [if_pos e, if_pos e]; exact r.repl k ry
  · rw [if_neg e, if_neg e]; exact Paired.snoc r ⟨rfl, ry⟩
theorem KV.drop {kvs : List (κ × V)} {vs : List (κ × Value)} (r : KV kvs vs) (k : κ) : KV (dropK kvs k) (without vs k) := by
  unfold KV at r ⊢
  unfold dropK without
  induction r with
  | nil => exact .nil
  | @cons p q ps qs h t ih =>
    obtain ⟨h1, h2⟩ := h
    rw [List.filter_cons, List.filter_cons]
    by_cases e : p.1 = k
    · have a : ¬ decide (p.1 ≠ k) = true := by simp [e]
      have b : ¬ decide (q.1 ≠ k) = true := by simp [h1.symm.trans e]
      rw [if_neg a, if_neg b]; exact ih
    · have e' : ¬ q.1 = k := fun z => e (h1.trans z)
      have a : decide (p.1 ≠ k) = true := by simp [e]
      have b : decide (q.1 ≠ k) = true := by simp [e']
      rw [if_pos a, if_pos b]; exact .cons ⟨h1, h2⟩ ih
theorem KV.keys {kvs : List (κ × V)} {vs : List (κ × Value)} (r : KV kvs vs) : kvs.map (·.1) = vs.map (·.1) := by
  unfold KV at r
  induction r with
  | nil => rfl
  | cons h t ih => rw [List.map_cons, List.map_cons, ih, h.1]
theorem KV.length {kvs : List (κ × V)} {vs : List (κ × Value)} (r : KV kvs vs) : kvs.length = vs.length := Paired.length r
theorem dropK_le (kvs : List (κ × V)) (k : κ) : (dropK kvs k).length ≤ kvs.length := List.length_filter_le _ _
end


/-! ### a tracked dict, its keys ints and texts or tuples of these -/
theorem kV_is {P : Program} {w : World} {k : Key} {u : Value} (r : RelV (kV k) u) : (mixKind P w).is k u = true := by
  cases k with
  | inl i => obtain ⟨t, e⟩ := (show ∃ t, u = Value.int i t from r); subst e; exact mixKind_int P w i t
  | inr x => obtain ⟨t, e⟩ := (show ∃ t, u = Value.str x t from r); subst e; exact mixKind_str P w x t
theorem kV_inj {a b : Key} (e : kV a = kV b) : a = b := by
  cases a with
  | inl i => cases b with
    | inl j => have e' : V.int i = V.int j := e; injection e' with e'; rw [e']
    | inr y => exact nomatch (show V.int i = V.str y from e)
  | inr x => cases b with
    | inl j => exact nomatch (show V.str x = V.int j from e)
    | inr y => have e' : V.str x = V.str y := e; injection e' with e'; rw [e']
theorem kVs_inj : ∀ {a b : List Key}, a.map kV = b.map kV → a = b
  | [], [], _ => rfl
  | [], _ :: _, e => by simp at e
  | _ :: _, [], e => by simp at e
  | x :: xs, y :: ys, e => by
    rw [List.map_cons, List.map_cons] at e
    injection e with e1 e2
    rw [kV_inj e1, kVs_inj e2]
theorem items_are {P : Program} {w : World} : ∀ {ks : List Key} {us : List Value}, Vals (ks.map kV) us → ItemsAre (mixKind P w) ks us
  | [], _, r => by rw [List.map_nil] at r; cases r; exact .nil
  | k :: ks, _, r => by
    rw [List.map_cons] at r
    cases r with
    | cons h t => exact .cons (kV_is h) (items_are t)

/-- raw entries of a dict with tuple keys -/
abbrev KT (H : Hp) : List (List Key × V) → List (List Key × Addr × Value) → Prop := Paired fun p q => p.1 = q.1 ∧ H q.2.1 = some (.tup (p.1.map kV)) ∧ RelV p.2 q.2.2
theorem KT.val {H : Hp} {kvs : List (List Key × V)} {xs : List (List Key × Addr × Value)} (r : KT H kvs xs) (k : List Key) : RelO (valV kvs k) ((atKey xs k).map (·.2)) := by
  induction r with
  | nil => exact True.intro
  | @cons p q ps qs h t ih =>
    obtain ⟨h1, _, h2⟩ := h
    by_cases e : p.1 = k
    · have e' : q.1 = k := h1.symm.trans e
      have b : atKey (q :: qs) k = some q.2 := by simp [atKey, List.find?_cons, e']
      rw [valV_pos e, b]; exact h2
    · have e' : ¬ q.1 = k := fun z => e (h1.trans z)
      have b : atKey (q :: qs) k = atKey qs k := by simp [atKey, List.find?_cons, e']
      rw [valV_neg e, b]; exact ih
theorem KT.repl {H : Hp} {kvs : List (List Key × V)} {xs : List (List Key × Addr × Value)} (r : KT H kvs xs) (k : List Key) {y : V} {u : Value} (ry : RelV y u) :
    KT H (kvs.map fun kv => if kv.1 = k then (kv.1, y) else kv) (xs.map (putAt k u)) := by
  induction r with
  | nil => exact .nil
  | @cons p q ps qs h t ih =>
    rw [List.map_cons, List.map_cons]
    refine .cons ?_ ih
    obtain ⟨h1, h2, h3⟩ := h
    unfold putAt
    by_cases e : p.1 = k
    · rw [if_pos e, if_pos (h1.symm.trans e)]; exact ⟨h1, h2, ry⟩
    · rw [if_neg e, if_neg (fun z => e (h1.trans z))]; exact ⟨h1, h2, h3⟩
theorem KT.put {H : Hp} {kvs : List (List Key × V)} {xs : List (List Key × Addr × Value)} (r : KT H kvs xs) (k : List Key) {b : Addr} {y : V} {u : Value} (hb : H b = some (.tup (k.map kV))) (ry : RelV y u) :
    KT H (putK kvs k y) (storedH xs k b u) := by
  have e : (kvs.any fun kv => decide (kv.1 = k)) = (atKey xs k).isSome := by
    rw [valV_any, (r.val k).isSome_eq, Option.isSome_map]
  unfold putK storedH
  rw [e]
  by_cases q : (atKey xs k).isSome = true
  · rw [if_pos q, if_pos q]; exact r.repl k ry
  · rw [if_neg q, if_neg q]; exact Paired.snoc r ⟨rfl, hb, ry⟩
theorem KT.keeps {H H' : Hp} {kvs : List (List Key × V)} {xs : List (List Key × Addr × Value)} (r : KT H kvs xs) (ht : ∀ b ys, H b = some (.tup ys) → H' b = some (.tup ys)) : KT H' kvs xs :=
  Paired.mapP r fun _ _ z => ⟨z.1, ht _ _ z.2.1, z.2.2⟩

section
variable {P : Program} {w : World} {H : Hp} {h : Heap} {a : Addr}
theorem rd_of {u : HO} (ok : HOk P w H h) (e : Rd H a u) : ObjOk P w H h a u := e.ok ok
theorem dk_rd {kvs : List (Key × V)} (ok : HOk P w H h) (e : Rd H a (.dK kvs)) : kvs.length ≤ sizeLine ∧ (a == sysModules) = false ∧ ∃ vs, KV kvs vs ∧ h.DictOf (mixKind P w) a vs :=
  show ObjOk P w H h a (.dK kvs) from rd_of ok e
theorem dk_of {kvs : List (Key × V)} (ok : HOk P w H h) (e : H a = some (.dK kvs)) : kvs.length ≤ sizeLine ∧ (a == sysModules) = false ∧ ∃ vs, KV kvs vs ∧ h.DictOf (mixKind P w) a vs := dk_rd ok (.inl e)
/-- a tracked tuple of ints and texts is a key -/
theorem key_of {ks : List Key} (ok : HOk P w H h) (e : H a = some (.tup (ks.map kV))) : (tupleKind (mixKind P w)).is h ks a := by
  obtain ⟨_, its, r, o, h1, h2, n, h3⟩ := (show ObjOk P w H h a (.tup (ks.map kV)) from ok a _ e)
  exact ⟨o, its.toArray, n, h1, h2, h3, by simpa using items_are r⟩
theorem dt_rd {kvs : List (List Key × V)} (ok : HOk P w H h) (e : Rd H a (.dT kvs)) : kvs.length ≤ sizeLine ∧ (a == sysModules) = false ∧
    ∃ xs, KT H kvs xs ∧ h.DictOfH (tupleKind (mixKind P w)) a xs := by
  obtain ⟨z, y, xs, r, o, es, ep, h1, h2, h3, h4, h5⟩ := (show ObjOk P w H h a (.dT kvs) from rd_of ok e)
  refine ⟨z, y, xs, r, o, es, ep, h1, h2, h3, h4, fun x hx => ?_, h5⟩
  have all : ∀ {l : List (List Key × V)} {m : List (List Key × Addr × Value)}, KT H l m → ∀ x ∈ m, (tupleKind (mixKind P w)).is h x.1 x.2.1 := by
    intro l m q
    induction q with
    | nil => intro x hx; exact nomatch hx
    | @cons p q ps qs hq t ih =>
      intro x hx
      rcases List.mem_cons.mp hx with e | hx
      · subst e
        exact key_of ok (by rw [← hq.1]; exact hq.2.1)
      · exact ih x hx
  exact all r x hx
theorem dt_of {kvs : List (List Key × V)} (ok : HOk P w H h) (e : H a = some (.dT kvs)) : kvs.length ≤ sizeLine ∧ (a == sysModules) = false ∧
    ∃ xs, KT H kvs xs ∧ h.DictOfH (tupleKind (mixKind P w)) a xs := dt_rd ok (.inl e)
end

/-- what the dict at a holds at the key y -/
def DGet (H : Hp) (a : Addr) (y : V) (r : Option V) : Prop :=
  (∃ kvs k, Rd H a (.dK kvs) ∧ y = kV k ∧ r = valV kvs k) ∨ ∃ kvs k b, Rd H a (.dT kvs) ∧ y = .ref b ∧ H b = some (.tup (k.map kV)) ∧ r = valV kvs k
/-- the heap behind a[y] = v -/
def DPut (H : Hp) (a : Addr) (y v : V) (H' : Hp) : Prop :=
  (∃ kvs k, H a = some (.dK kvs) ∧ y = kV k ∧ kvs.length < sizeLine ∧ H' = upd H a (.dK (putK kvs k v))) ∨
  ∃ kvs k b, H a = some (.dT kvs) ∧ y = .ref b ∧ H b = some (.tup (k.map kV)) ∧ kvs.length < sizeLine ∧ H' = upd H a (.dT (putK kvs k v))
theorem DGet.k {H : Hp} {a : Addr} {kvs : List (Key × V)} {k : Key} (e : H a = some (.dK kvs)) : DGet H a (kV k) (valV kvs k) := .inl ⟨kvs, k, .inl e, rfl, rfl⟩
theorem DGet.t {H : Hp} {a b : Addr} {kvs : List (List Key × V)} {k : List Key} (e : H a = some (.dT kvs)) (eb : H b = some (.tup (k.map kV))) : DGet H a (.ref b) (valV kvs k) := .inr ⟨kvs, k, b, .inl e, rfl, eb, rfl⟩
theorem DPut.k {H : Hp} {a : Addr} {kvs : List (Key × V)} {k : Key} {v : V} (e : H a = some (.dK kvs)) (hl : kvs.length < sizeLine) : DPut H a (kV k) v (upd H a (.dK (putK kvs k v))) := .inl ⟨kvs, k, e, rfl, hl, rfl⟩
theorem DPut.t {H : Hp} {a b : Addr} {kvs : List (List Key × V)} {k : List Key} {v : V} (e : H a = some (.dT kvs)) (eb : H b = some (.tup (k.map kV))) (hl : kvs.length < sizeLine) :
    DPut H a (.ref b) v (upd H a (.dT (putK kvs k v))) := .inr ⟨kvs, k, b, e, rfl, eb, hl, rfl⟩


section
variable {X : Cx} {pins : List (Addr × Obj)} {σ : St} {H : Hp} {s : Shared} {a : Addr} {y v : V} {u r : Value} {o : Option V} {A : Around} {E : Value → Shared → Prop}

theorem Inv.big (I : Inv X pins σ H s) : sysModules < s.heap.objs.size := by
  have h : mainGlobals < s.heap.objs.size := (I.mod.glob.keeps I.bk).lt
  exact Nat.lt_trans (by decide) h

/-- d[y], there -/
theorem d_getItem {Q : Value → Shared → Prop} (hu : A.units + 1 < cLine) (I : Inv X pins σ H s) (g : DGet H a y (some v)) (ry : RelV y u) (h : ∀ w' s', Inv X pins σ H s' → RelV v w' → Q w' s') :
    wpAny (model X.prog X.w) A (getItem (.ref a) u) Q E s := by
  rcases g with ⟨kvs, k, e, ey, l⟩ | ⟨kvs, k, b, e, ey, eb, l⟩
  · subst ey
    obtain ⟨z, hd, vs, rel, dd⟩ := dk_rd I.hok e
    obtain ⟨w', hw, rw'⟩ := RelO.some_of (v := v) (o := valueAt vs k) (by rw [l]; exact rel.val k)
    exact wpAny_getItem_of (kV_is ry) dd.mapOf hw (h w' _ (I.tok _) rw')
  · subst ey
    cases (show u = Value.ref b from ry)
    obtain ⟨z, hd, xs, rel, dd⟩ := dt_rd I.hok e
    obtain ⟨w', hw, rw'⟩ := RelO.some_of (v := v) (o := (atKey xs k).map (·.2)) (by rw [l]; exact rel.val k)
    obtain ⟨p, hp, hp2⟩ := Option.map_eq_some_iff.mp hw
    refine wpAny_getItem_heap (tupleKind_room_in1 hu) (key_of I.hok eb) dd hp ?_
    rw [hp2]
    exact h w' _ (I.tok _) rw'
/-- y in d -/
theorem d_in {Q : Value → Shared → Prop} (hu : A.units + 1 < cLine) (I : Inv X pins σ H s) (g : DGet H a y o) (ry : RelV y u) (h : ∀ s', Inv X pins σ H s' → Q (.bool o.isSome) s') :
    wpAny (model X.prog X.w) A (compareOp .In u (.ref a)) Q E s := by
  rcases g with ⟨kvs, k, e, ey, l⟩ | ⟨kvs, k, b, e, ey, eb, l⟩
  · subst ey
    obtain ⟨z, hd, vs, rel, dd⟩ := dk_rd I.hok e
    refine wpAny_in_of (kV_is ry) hd dd.mapOf ?_
    rw [← (rel.val k).isSome_eq, ← l]
    exact h _ (I.tok _)
  · subst ey
    cases (show u = Value.ref b from ry)
    obtain ⟨z, hd, xs, rel, dd⟩ := dt_rd I.hok e
    refine wpAny_in_heap (tupleKind_room_in1 hu) (key_of I.hok eb) hd dd ?_
    have q := (rel.val k).isSome_eq
    rw [Option.isSome_map] at q
    rw [← q, ← l]
    exact h _ (I.tok _)
theorem d_notIn {Q : Value → Shared → Prop} (hu : A.units + 1 < cLine) (I : Inv X pins σ H s) (g : DGet H a y o) (ry : RelV y u) (h : ∀ s', Inv X pins σ H s' → Q (.bool (!o.isSome)) s') :
    wpAny (model X.prog X.w) A (compareOp .NotIn u (.ref a)) Q E s := by
  rcases g with ⟨kvs, k, e, ey, l⟩ | ⟨kvs, k, b, e, ey, eb, l⟩
  · subst ey
    obtain ⟨z, hd, vs, rel, dd⟩ := dk_rd I.hok e
    refine wpAny_notIn_of (kV_is ry) hd dd.mapOf ?_
    rw [← (rel.val k).isSome_eq, ← l]
    exact h _ (I.tok _)
  · subst ey
    cases (show u = Value.ref b from ry)
    obtain ⟨z, hd, xs, rel, dd⟩ := dt_rd I.hok e
    refine wpAny_notIn_heap (tupleKind_room_in1 hu) (key_of I.hok eb) hd dd ?_
    have q := (rel.val k).isSome_eq
    rw [Option.isSome_map] at q
    rw [← q, ← l]
    exact h _ (I.tok _)
/-- a dict's object is replaced -/
theorem d_write {h' : Heap} {t' : Nat} {ob : HO} (I : Inv X pins σ H s) (mu : Mut (H a)) (hs : Heap.SameBut a s.heap h') (he : ∃ q, h'.get? a = some q) (new : ObjOk X.prog X.w (upd H a ob) h' a ob) :
    Inv X pins σ (upd H a ob) { s with heap := h', toks := t' } :=
  I.write (x := a) (e := a) mu (.inl rfl) (fun b q hb z => (hs.2 b hb).trans z) he new
theorem dk_new {P : Program} {w : World} {H' : Hp} {h' : Heap} {kvs : List (Key × V)} {vs : List (Key × Value)} (z : kvs.length ≤ sizeLine) (hd : (a == sysModules) = false) (rel : KV kvs vs) (dd : h'.DictOf (mixKind P w) a vs) :
    ObjOk P w H' h' a (.dK kvs) := ⟨z, hd, vs, rel, dd⟩
/-- d[y] = v -/
theorem d_setItem {H' : Hp} {Q : Unit → Shared → Prop} (hu : A.units + 1 < cLine) (I : Inv X pins σ H s) (g : DPut H a y v H') (ry : RelV y u) (rv : RelV v r) (h : ∀ s', Inv X pins σ H' s' → Q () s') :
    wpAny (model X.prog X.w) A (setItem (.ref a) u r) Q E s := by
  rcases g with ⟨kvs, k, e, ey, l, eH⟩ | ⟨kvs, k, b, e, ey, eb, l, eH⟩
  · subst ey eH
    obtain ⟨z, hd, vs, rel, dd⟩ := dk_of I.hok e
    have hz : vs.length ≤ sizeLine := by rw [← rel.length]; exact z
    have hl : (putK kvs k v).length ≤ sizeLine := by have := length_putK kvs k v; omega
    refine wpAny_setItem_pairs (hsz := hz) (kV_is ry) dd fun h' dd' hs => h _ ?_
    have he : ∃ q, h'.get? a = some q := let ⟨q, _, _, hq, _⟩ := dd'; ⟨q, hq⟩
    exact d_write I (by rw [e]; exact True.intro) hs he (dk_new hl hd (rel.put k rv) dd')
  · subst ey eH
    cases (show u = Value.ref b from ry)
    obtain ⟨z, hd, xs, rel, dd⟩ := dt_of I.hok e
    have hz : xs.length ≤ sizeLine := by rw [← Paired.length rel]; exact z
    have hl : (putK kvs k v).length ≤ sizeLine := by have := length_putK kvs k v; omega
    refine wpAny_setItem_heap (hsz := hz) (tupleKind_room_in1 hu) (key_of I.hok eb) dd fun h' dd' hs => h _ ?_
    obtain ⟨q, es, ep, hq, h2, h3, h4, _, h5⟩ := dd'
    refine d_write I (by rw [e]; exact True.intro) hs ⟨q, hq⟩ ⟨hl, hd, _, (rel.put k eb rv).keeps fun c ys ec => ?_, q, es, ep, hq, h2, h3, h4, h5⟩
    rw [upd_ne (ne_of ec e (fun z => nomatch z))]
    exact ec
end

section
variable {X : Cx} {pins : List (Addr × Obj)} {σ : St} {H : Hp} {s : Shared} {a : Addr} {kvs : List (Key × V)} {k : Key} {u : Value} {A : Around} {E : Value → Shared → Prop}
/-- del d[k] -/
theorem d_delItem {Q : Unit → Shared → Prop} (I : Inv X pins σ H s) (e : H a = some (.dK kvs)) (ry : RelV (kV k) u) (l : (valV kvs k).isSome = true) (h : ∀ s', Inv X pins σ (upd H a (.dK (dropK kvs k))) s' → Q () s') :
    wpAny (model X.prog X.w) A (delItem (.ref a) u) Q E s := by
  obtain ⟨z, hd, vs, rel, dd⟩ := dk_of I.hok e
  refine wpAny_delItem_slot dd.typeIs (by decide) PySem.F.slot_dict_delitem
    (call_meetsIn PySem.F.slot_dict_delitem dd.typeIs PySem.F.entry_dict_delitem (PySem.F.args_dict_delitem_2 _ _) (meets_dict_delitem_pairs (mixKind X.prog X.w) a (kV_is ry)) ⟨vs, dd, by rw [← rel.length]; exact z, by rw [← (rel.val k).isSome_eq]; exact l, fun h' dd' hs => h _ ?_⟩)
  have he : ∃ q, h'.get? a = some q := let ⟨q, _, _, hq, _⟩ := dd'; ⟨q, hq⟩
  exact d_write I (by rw [e]; exact True.intro) hs he (dk_new (Nat.le_trans (dropK_le kvs k) z) hd (rel.drop k) dd')
/-- d.pop(k[, x]), there -/
theorem d_pop {v : V} {more : List Value} {Q : Value → Shared → Prop} (I : Inv X pins σ H s) (e : H a = some (.dK kvs)) (ry : RelV (kV k) u) (l : valV kvs k = some v) (hm : more = [] ∨ ∃ x, more = [x])
    (h : ∀ w' s', Inv X pins σ (upd H a (.dK (dropK kvs k))) s' → RelV v w' → Q w' s') : wpAny (model X.prog X.w) A (call (.builtin "dict.pop") (.ref a :: u :: more)) Q E s := by
  obtain ⟨z, hd, vs, rel, dd⟩ := dk_of I.hok e
  obtain ⟨w', hw, rw'⟩ := RelO.some_of (v := v) (o := valueAt vs k) (by rw [← l]; exact rel.val k)
  have hp : (keyPart u).isSome = true := by
    cases k with
    | inl i => obtain ⟨t, q⟩ := (show ∃ t, u = Value.int i t from ry); subst q; rfl
    | inr x => obtain ⟨t, q⟩ := (show ∃ t, u = Value.str x t from ry); subst q; rfl
  have ha : argsOk "dict.pop" ⟨.ref a :: u :: more, []⟩ := by
    rcases hm with q | ⟨x, q⟩
    · subst q; exact PySem.F.args_dict_pop_2 _ _
    · subst q; exact PySem.F.args_dict_pop_3 _ _ _
  refine call_meetsIn PySem.F.slot_dict_pop dd.typeIs PySem.F.entry_dict_pop ha (meets_dict_pop_there (mixKind X.prog X.w) a (kV_is ry) more hm hp)
    ⟨vs, w', dd, by rw [← rel.length]; exact z, hw, fun h' dd' hs => h w' _ ?_ rw'⟩
  have he : ∃ q, h'.get? a = some q := let ⟨q, _, _, hq, _⟩ := dd'; ⟨q, hq⟩
  exact d_write I (by rw [e]; exact True.intro) hs he (dk_new (Nat.le_trans (dropK_le kvs k) z) hd (rel.drop k) dd')
/-- d.pop(k, x), not there -/
theorem d_popD {r : Value} {Q : Value → Shared → Prop} (I : Inv X pins σ H s) (e : H a = some (.dK kvs)) (ry : RelV (kV k) u) (l : valV kvs k = none) (h : ∀ s', Inv X pins σ H s' → Q r s') :
    wpAny (model X.prog X.w) A (call (.builtin "dict.pop") [.ref a, u, r]) Q E s := by
  obtain ⟨z, hd, vs, rel, dd⟩ := dk_of I.hok e
  have hn : valueAt vs k = none := RelO.none_of (by rw [← l]; exact rel.val k)
  have hp : (keyPart u).isSome = true := by
    cases k with
    | inl i => obtain ⟨t, q⟩ := (show ∃ t, u = Value.int i t from ry); subst q; rfl
    | inr x => obtain ⟨t, q⟩ := (show ∃ t, u = Value.str x t from ry); subst q; rfl
  exact call_meetsIn PySem.F.slot_dict_pop dd.typeIs PySem.F.entry_dict_pop (PySem.F.args_dict_pop_3 _ _ _) (meets_dict_pop_default (mixKind X.prog X.w) a (kV_is ry) hd hp r) ⟨vs, dd, hn, h _ (I.tok _)⟩
/-- d.clear() -/
theorem d_clear {Q : Value → Shared → Prop} (I : Inv X pins σ H s) (e : H a = some (.dK kvs)) (h : ∀ s', Inv X pins σ (upd H a (.dK [])) s' → Q .none s') : wpAny (model X.prog X.w) A (call (.builtin "dict.clear") [.ref a]) Q E s := by
  obtain ⟨z, hd, vs, rel, dd⟩ := dk_of I.hok e
  refine call_meetsIn PySem.F.slot_dict_clear dd.typeIs PySem.F.entry_dict_clear (PySem.F.args_dict_clear_1 _) (meets_dict_clear (mixKind X.prog X.w) a) ⟨vs, dd, by rw [← rel.length]; exact z, fun h' dd' hs => h _ ?_⟩
  have he : ∃ q, h'.get? a = some q := let ⟨q, _, _, hq, _⟩ := dd'; ⟨q, hq⟩
  exact d_write (t' := s.toks) I (by rw [e]; exact True.intro) hs he (dk_new (Nat.zero_le _) hd .nil dd')
/-- len(d) -/
theorem d_len {Q : Value → Shared → Prop} (I : Inv X pins σ H s) (e : Rd H a (.dK kvs)) (h : ∀ t s', Inv X pins σ H s' → Q (.int kvs.length t) s') : wpAny (model X.prog X.w) A (call (.builtin "len") [.ref a]) Q E s := by
  obtain ⟨z, hd, vs, rel, dd⟩ := dk_rd I.hok e
  refine call_len_dict hd dd (by rw [← rel.length]; rw [sizeLine_eq] at z; omega) ?_
  rw [← rel.length]
  exact h _ _ (I.tok _)
/-- if d -/
theorem d_truth {Q : Bool → Shared → Prop} (I : Inv X pins σ H s) (e : Rd H a (.dK kvs)) (h : ∀ s', Inv X pins σ H s' → Q (!kvs.isEmpty) s') : wpAny (model X.prog X.w) A (truthy (.ref a)) Q E s := by
  obtain ⟨z, hd, vs, rel, dd⟩ := dk_rd I.hok e
  refine wpAny_truthy_dict hd dd (by rw [← rel.length]; rw [sizeLine_eq] at z; omega) ?_
  have q : kvs.isEmpty = vs.isEmpty := by cases rel <;> rfl
  rw [← q]
  exact h _ (I.tok _)
end


/-! ### readings and rules -/
/-- the element of a subscription, not a slice -/
def NoSl (i : Expr) : Prop := ∀ ov iv, subscripted i false ov iv = operate [ov, iv] (getItem ov iv)
theorem subD_of {prog : Program} {w : World} {A : Around} {E : Value → Shared → Prop} {s : Shared} {env : Env} {value slice : Expr} {pos : Pos} {T id : String} {Q : Value → Shared → Prop}
    (hl : typeLookup (.type T) "__getitem__" = pure (some (.builtin id))) (hs : NoSl slice)
    (h : wpAny (model prog w) A (eval value env) (fun o s₁ => wpAny (model prog w) A (eval slice env) (fun i s₂ => s₂.TypeIs o T ∧ wpAny (model prog w) A (getItem o i) Q E s₂) E s₁) E s) :
    wpAny (model prog w) A (eval (.Subscript value slice pos) env) Q E s := by
  refine Subscript_ (wpAny_mono h (fun o s₁ h₁ => wpAny_mono h₁ (fun i s₂ h₂ => ?_) fun _ _ x => x) fun _ _ x => x)
  obtain ⟨hT, h₂⟩ := h₂
  unfold subscriptTail
  refine wpAny_bind ?_
  rw [getitemInPython_of_ne hT.not_modules]
  refine wpAny_bind (wpAny_specialOf hT hl ?_)
  have fin : wpAny (model prog w) A (subscripted slice false o i) (fun r s₃ => wpAny (model prog w) A (letTemporaryGo value o r >>= fun _ => pure r) Q E s₃) E s₂ := by
    rw [hs o i]
    exact wpAny_operating (wpAny_mono h₂ (fun r s₃ h₃ => wpAny_bind (wpAny_letTemporaryGo (wpAny_pure h₃))) fun _ _ x => x)
  first
    | exact wpAny_pure (wpAny_bind fin)
    | exact wpAny_bind (wpAny_pure (wpAny_bind fin))
    | exact wpAny_bind fin

theorem dict_typeIs {X : Cx} {pins : List (Addr × Obj)} {σ : St} {H : Hp} {s : Shared} {a : Addr} {y : V} {o : Option V} (I : Inv X pins σ H s) (g : DGet H a y o) : s.TypeIs (.ref a) "dict" := by
  rcases g with ⟨kvs, k, e, _, _⟩ | ⟨kvs, k, b, e, _, _, _⟩
  · obtain ⟨_, _, vs, _, dd⟩ := dk_rd I.hok e
    exact dd.typeIs
  · obtain ⟨_, _, xs, _, dd⟩ := dt_rd I.hok e
    exact dd.typeIs
theorem dict_noDict {X : Cx} {pins : List (Addr × Obj)} {σ : St} {H : Hp} {s : Shared} {a : Addr} {y : V} {o : Option V} (I : Inv X pins σ H s) (g : DGet H a y o) :
    ∀ b, Value.ref a = .ref b → ∃ ob, s.heap.get? b = some ob ∧ ob.dict = none := fun b q => by
  cases q
  rcases g with ⟨kvs, k, e, _, _⟩ | ⟨kvs, k, b, e, _, _, _⟩
  · obtain ⟨_, _, vs, _, ob, _, _, h1, h2, _⟩ := dk_rd I.hok e
    exact ⟨ob, h1, h2.2.1⟩
  · obtain ⟨_, _, xs, _, ob, _, _, h1, h2, _⟩ := dt_rd I.hok e
    exact ⟨ob, h1, h2.2.1⟩

/-- d[y] -/
def tDGet (td ty : TE) : TE := fun σ H Q => td σ H fun x H1 => ty σ H1 fun y H2 => ∃ a v, x = .ref a ∧ DGet H2 a y (some v) ∧ Q v H2
/-- y in d, y not in d -/
def tDIn (ty td : TE) : TE := fun σ H Q => ty σ H fun y H1 => td σ H1 fun x H2 => ∃ a o, x = .ref a ∧ DGet H2 a y o ∧ Q (.bl o.isSome) H2
def tDNotIn (ty td : TE) : TE := fun σ H Q => ty σ H fun y H1 => td σ H1 fun x H2 => ∃ a o, x = .ref a ∧ DGet H2 a y o ∧ Q (.bl (!o.isSome)) H2
/-- d[y] = v -/
def sDPut (td ty tv : TE) : TS := fun D σ H => tv σ H fun v H1 => td σ H1 fun x H2 => ty σ H2 fun y H3 => ∃ a H4, x = .ref a ∧ DPut H3 a y v H4 ∧ D.nx σ H4
/-- d[y] op= v -/
def sDAug (td ty tv : TE) (rd : V → V → Hp → VK → Prop) : TS := fun D σ H => td σ H fun x H1 => ty σ H1 fun y H2 => ∃ a v, x = .ref a ∧ DGet H2 a y (some v) ∧
  tv σ H2 fun y2 H3 => rd v y2 H3 fun z H4 => ∃ H5, DPut H4 a y z H5 ∧ D.nx σ H5
/-- del d[y] -/
def sDDel (td ty : TE) : TS := fun D σ H => td σ H fun x H1 => ty σ H1 fun y H2 => ∃ a kvs k, x = .ref a ∧ H2 a = some (.dK kvs) ∧ y = kV k ∧ (valV kvs k).isSome = true ∧ D.nx σ (upd H2 a (.dK (dropK kvs k)))

section
variable {X : Cx} {o i e value : Expr} {pos pos' tpos : Pos} {td ty tv : TE}
theorem pe_dget (hu : X.A.units + 1 < cLine) (ho : PE X o td) (hi : PE X i ty) (hs : NoSl i) : PE X (.Subscript o i pos) (tDGet td ty) := by
  intro pins s σ H Q I h
  refine subD_of PySem.F.slot_dict_getitem.lookup hs (thn (ho pins s σ H _ I h) fun u s1 ⟨x, H1, I1, rx, q1⟩ => thn (hi pins s1 σ H1 _ I1 q1) fun iv s2 ⟨y, H2, I2, ry, a, v, ex, g, q2⟩ => ?_)
  subst ex
  obtain rfl : u = Value.ref a := rx
  exact ⟨dict_typeIs I2 g, d_getItem hu I2 g ry fun w' s3 I3 rw' => ⟨v, H2, I3, rw', q2⟩⟩
theorem pc_din (hu : X.A.units + 1 < cLine) (hi : PE X i ty) (ho : PE X o td) : PC X .In i o (tDIn ty td) := by
  intro pins s σ H Q I h
  refine thn (hi pins s σ H _ I h) fun iv s1 ⟨y, H1, I1, ry, q1⟩ => thn (ho pins s1 σ H1 _ I1 q1) fun u s2 ⟨x, H2, I2, rx, a, ov, ex, g, q2⟩ => ?_
  subst ex
  obtain rfl : u = Value.ref a := rx
  exact d_in hu I2 g ry fun s3 I3 => ⟨.bl ov.isSome, H2, I3, rfl, q2⟩
theorem pc_dnotin (hu : X.A.units + 1 < cLine) (hi : PE X i ty) (ho : PE X o td) : PC X .NotIn i o (tDNotIn ty td) := by
  intro pins s σ H Q I h
  refine thn (hi pins s σ H _ I h) fun iv s1 ⟨y, H1, I1, ry, q1⟩ => thn (ho pins s1 σ H1 _ I1 q1) fun u s2 ⟨x, H2, I2, rx, a, ov, ex, g, q2⟩ => ?_
  subst ex
  obtain rfl : u = Value.ref a := rx
  exact d_notIn hu I2 g ry fun s3 I3 => ⟨.bl (!ov.isSome), H2, I3, rfl, q2⟩
theorem ps_dput (hu : X.A.units + 1 < cLine) (ho : PE X o td) (hi : PE X i ty) (hv : PE X value tv) (hs : swapsWith value (some (.Subscript o i pos')) pos.line X.env = pure false) :
    PS X (.Assign [.Subscript o i pos'] value pos) (sDPut td ty tv) := by
  intro pins s σ H D I h
  refine wpAny_Assign_Subscript (thn (hv pins s σ H _ I h) fun r s1 ⟨v, H1, I1, rv, q1⟩ => thn (ho pins s1 σ H1 _ I1 q1) fun u s2 ⟨x, H2, I2, rx, q2⟩ => thn (hi pins s2 σ H2 _ I2 q2) fun iv s3 ⟨y, H3, I3, ry, a, H4, ex, g, q3⟩ => ?_) hs
  subst ex
  obtain rfl : u = Value.ref a := rx
  exact d_setItem hu I3 g ry rv fun s4 I4 => ⟨σ, H4, I4, q3⟩
theorem ps_daug {op : Operator} {rd : V → V → Hp → VK → Prop} (hu : X.A.units + 1 < cLine) (ho : PE X o td) (hi : PE X i ty) (hv : PE X value tv) (hop : InOp X op rd)
    (ha : ∀ ov iv new, augStore i ov iv new = (do holding [new, ov, iv] (setItem ov iv new); release [new, ov, iv] []; pure .next)) : PS X (.AugAssign (.Subscript o i tpos) op value pos) (sDAug td ty tv rd) := by
  intro pins s σ H D I h
  refine wpAny_AugAssign_SubscriptAny (thn (ho pins s σ H _ I h) fun u s1 ⟨x, H1, I1, rx, q1⟩ => thn (hi pins s1 σ H1 _ I1 q1) fun iv s2 ⟨y, H2, I2, ry, a, v, ex, g, q2⟩ => ?_) ha
  subst ex
  obtain rfl : u = Value.ref a := rx
  refine d_getItem hu I2 g ry fun w' s3 I3 rw' => thn (hv pins s3 σ H2 _ I3 q2) fun w2 s4 ⟨y2, H3, I4, ry2, q3⟩ => thn (hop pins s4 σ H3 v y2 w' w2 _ I4 rw' ry2 q3) fun w3 s5 ⟨z, H4, I5, rz, H5, g5, q4⟩ => ?_
  exact d_setItem hu I5 g5 ry rz fun s6 I6 => ⟨σ, H5, I6, q4⟩
theorem ps_ddel (ho : PE X o td) (hi : PE X i ty) : PS X (.Delete [.Subscript o i tpos] pos) (sDDel td ty) := by
  intro pins s σ H D I h
  refine wpAny_Delete (wpAny_deleteEach_cons (wpAny_delete_Subscript (thn (ho pins s σ H _ I h) fun u s1 ⟨x, H1, I1, rx, q1⟩ => thn (hi pins s1 σ H1 _ I1 q1) fun iv s2 ⟨y, H2, I2, ry, a, kvs, k, ex, e, ey, l, q2⟩ => ?_)))
  subst ex ey
  obtain rfl : u = Value.ref a := rx
  exact d_delItem I2 e ry l fun s3 I3 => wpAny_deleteEach_nil ⟨σ, _, I3, q2⟩
end


/-! ### displays -/
theorem dk_empty {P : Program} {w : World} {H : Hp} (h : Heap) (hb : sysModules < h.objs.size) : ObjOk P w H (h.push { cls := .type "dict", data := .dict #[] }) h.objs.size (.dK []) :=
  ⟨Nat.zero_le _, beq_eq_false_iff_ne.mpr (Ne.symm (Nat.ne_of_lt hb)), [], .nil, Heap.DictOf.new h⟩
theorem dt_empty {P : Program} {w : World} {H : Hp} (h : Heap) (hb : sysModules < h.objs.size) : ObjOk P w H (h.push { cls := .type "dict", data := .dict #[] }) h.objs.size (.dT []) :=
  ⟨Nat.zero_le _, beq_eq_false_iff_ne.mpr (Ne.symm (Nat.ne_of_lt hb)), [], .nil, _, #[], 0, Heap.get?_push_size _ rfl, ⟨rfl, rfl, rfl⟩, rfl, rfl, List.nodup_nil⟩
/-- {}, to be a dict of the kind that is wanted -/
def tDNewK : TE := fun _ H Q => ∀ p, H p = none → Q (.ref p) (upd H p (.dK []))
def tDNewT : TE := fun _ H Q => ∀ p, H p = none → Q (.ref p) (upd H p (.dT []))
section
variable {X : Cx} {pos : Pos}
theorem pe_dnewK : PE X (.Dict [] [] pos) tDNewK := fun pins s σ H Q I h =>
  wpAny_Dict_empty ⟨.ref s.heap.objs.size, _, I.laid (a := s.heap.objs.size) (o := .dK []) (t' := s.toks) (fun _ _ q => Heap.get?_push_of_some _ q) (Nat.le_refl _) (dk_empty s.heap I.big), rfl, h _ (I.hok.fresh (Nat.le_refl _))⟩
theorem pe_dnewT : PE X (.Dict [] [] pos) tDNewT := fun pins s σ H Q I h =>
  wpAny_Dict_empty ⟨.ref s.heap.objs.size, _, I.laid (a := s.heap.objs.size) (o := .dT []) (t' := s.toks) (fun _ _ q => Heap.get?_push_of_some _ q) (Nat.le_refl _) (dt_empty s.heap I.big), rfl, h _ (I.hok.fresh (Nat.le_refl _))⟩
end

/-- the pairs of a display, from the left -/
def tPairs : List (TE × TE) → St → Hp → (List (V × V) → Hp → Prop) → Prop
  | [], _, H, Q => Q [] H
  | (tk, tv) :: r, σ, H, Q => tk σ H fun x H1 => tv σ H1 fun y H2 => tPairs r σ H2 fun ps H3 => Q ((x, y) :: ps) H3
abbrev VV : List (V × V) → List (Value × Value) → Prop := Paired fun p q => RelV p.1 q.1 ∧ RelV p.2 q.2
def PPs (X : Cx) (pos : Pos) (keys : List (Option Expr)) (values : List Expr) (trs : List (TE × TE)) : Prop :=
  ∀ (pins : List (Addr × Obj)) (s : Shared) (σ : St) (H : Hp) (Q : List (V × V) → Hp → Prop), Inv X pins σ H s → tPairs trs σ H Q →
    wpAny (model X.prog X.w) X.A (evalPairs (pairTrees keys values X.env pos)) (fun vs s' => ∃ ps H', Inv X pins σ H' s' ∧ VV ps vs ∧ Q ps H') X.xe s
theorem pps_nil {X : Cx} {pos : Pos} : PPs X pos [] [] [] := fun pins s σ H Q I h => pairTrees_nil_walk ⟨[], H, I, .nil, h⟩
theorem pps_cons {X : Cx} {pos : Pos} {k v : Expr} {ks : List (Option Expr)} {vs : List Expr} {tk tv : TE} {trs : List (TE × TE)} (hk : PE X k tk) (hv : PE X v tv) (hr : PPs X pos ks vs trs) :
    PPs X pos (some k :: ks) (v :: vs) ((tk, tv) :: trs) := fun pins s σ H Q I h =>
  pairTrees_cons_walk (thn (hk pins s σ H _ I h) fun u s1 ⟨x, H1, I1, rx, q1⟩ => thn (hv pins s1 σ H1 _ I1 q1) fun w2 s2 ⟨y, H2, I2, ry, q2⟩ =>
    thn (hr pins s2 σ H2 _ I2 q2) fun ws s3 ⟨ps, H3, I3, rel, q3⟩ => ⟨(x, y) :: ps, H3, I3, .cons ⟨rx, ry⟩ rel, q3⟩)

def mergeK (kvs more : List (Key × V)) : List (Key × V) := more.foldl (fun acc kv => putK acc kv.1 kv.2) kvs
theorem KV.merge : ∀ {more : List (Key × V)} {rs : List (Key × Value)} {kvs : List (Key × V)} {vs : List (Key × Value)}, KV more rs → KV kvs vs → KV (mergeK kvs more) (merged vs rs) := by
  intro more rs kvs vs r
  unfold KV at r
  induction r generalizing kvs vs with
  | nil => intro q; exact q
  | @cons p q ps qs h t ih =>
    intro r0
    have e : KV (putK kvs p.1 p.2) (stored vs q.1 q.2) := by
      have := r0.put p.1 h.2
      rw [← h.1]; exact this
    exact ih e
theorem length_mergeK : ∀ (more kvs : List (Key × V)), (mergeK kvs more).length ≤ kvs.length + more.length
  | [], kvs => by show kvs.length ≤ kvs.length + 0; omega
  | p :: r, kvs => by
    have h1 := length_mergeK r (putK kvs p.1 p.2)
    have h2 := length_putK kvs p.1 p.2
    show (mergeK (putK kvs p.1 p.2) r).length ≤ _
    rw [List.length_cons]; omega
theorem carries_of {P : Program} {w : World} : ∀ {kvs : List (Key × V)} {ws : List (Value × Value)}, VV (kvs.map fun kv => (kV kv.1, kv.2)) ws → ∃ rs, Carries (mixKind P w) ws rs ∧ KV kvs rs
  | [], _, r => by rw [List.map_nil] at r; cases r; exact ⟨[], True.intro, .nil⟩
  | p :: kvs, _, r => by
    rw [List.map_cons] at r
    cases r with
    | @cons a b as bs h t =>
      obtain ⟨rs, c, q⟩ := carries_of (P := P) (w := w) t
      obtain ⟨b1, b2⟩ := b
      exact ⟨(p.1, b2) :: rs, ⟨kV_is h.1, rfl, c⟩, .cons ⟨rfl, h.2⟩ q⟩
/-- {k: v, ..} with keys ints and texts; the new dict stands empty while the pairs are made -/
def tDisp (trs : List (TE × TE)) : TE := fun σ H Q => ∀ p, H p = none → tPairs trs σ (upd H p (.dK [])) fun ps H2 => H2 p = some (.dK []) ∧ ∃ kvs : List (Key × V), ps = kvs.map (fun kv => (kV kv.1, kv.2)) ∧ kvs.length ≤ 15 ∧ Q (.ref p) (upd H2 p (.dK (mergeK [] kvs)))
theorem pe_disp {X : Cx} {pos : Pos} {keys : List (Option Expr)} {values : List Expr} {trs : List (TE × TE)} (h : PPs X pos keys values trs) (hall : keys.all (·.isSome) = true) (hl : keys.length = values.length) (h0 : keys ≠ [])
    (h15 : keys.length ≤ 15) : PE X (.Dict keys values pos) (tDisp trs) := by
  intro pins s σ H Q I q
  have hn := I.hok.fresh (Nat.le_refl s.heap.objs.size)
  have I1 := I.laid (a := s.heap.objs.size) (o := .dK []) (h' := s.heap.push { cls := .type "dict", data := .dict #[] }) (t' := s.toks) (fun _ _ q => Heap.get?_push_of_some _ q) (Nat.le_refl _) (dk_empty s.heap I.big)
  refine wpAny_Dict_walk (knd := mixKind X.prog X.w) hall hl h0 h15 (thn (h pins _ σ _ _ I1 (q _ hn)) fun ws s2 ⟨ps, H2, I2, rel, e, kvs, ep, lk, q2⟩ => ?_)
  subst ep
  obtain ⟨rs, c, rk⟩ := carries_of (P := X.prog) (w := X.w) rel
  obtain ⟨z, hd, vs0, r0, dd⟩ := dk_of I2.hok e
  cases r0
  refine ⟨rs, c, dd, fun h' dd' hs => ⟨.ref s.heap.objs.size, _, ?_, rfl, q2⟩⟩
  have hz : (mergeK [] kvs).length ≤ sizeLine := by
    have h1 := length_mergeK kvs []
    rw [List.length_nil] at h1
    rw [sizeLine_eq]; omega
  have he : ∃ q, h'.get? s.heap.objs.size = some q := let ⟨q, _, _, hq, _⟩ := dd'; ⟨q, hq⟩
  exact d_write I2 (by rw [e]; exact True.intro) hs he (dk_new hz hd (rk.merge .nil) dd')


/-! ### methods -/
/-- a method call o.m(e) of a built-in, with one argument: what must be seen of the text -/
structure M1 (X : Cx) (o : Expr) (m : Str) (apos : Pos) (e : Expr) (cpos : Pos) : Prop where
  base : attributeBase o m X.env (eval o X.env) = eval o X.env
  few : ((backTo cpos (starEach [e] X.env)).all (fun x => !x.1) && (backToKw cpos (keywordEach [] X.env)).all (fun x => x.1.isSome)
    && decide (([e] : List Expr).length + ([] : List Keyword).length + (if ([] : List Keyword).isEmpty then 0 else 1) < 30)) = true
  line : (apos.endLine == cpos.line) = true
  trees : backTo cpos (starEach [e] X.env) = [(false, eval e X.env)]
structure M2 (X : Cx) (o : Expr) (m : Str) (apos : Pos) (e f : Expr) (cpos : Pos) : Prop where
  base : attributeBase o m X.env (eval o X.env) = eval o X.env
  few : ((backTo cpos (starEach [e, f] X.env)).all (fun x => !x.1) && (backToKw cpos (keywordEach [] X.env)).all (fun x => x.1.isSome)
    && decide (([e, f] : List Expr).length + ([] : List Keyword).length + (if ([] : List Keyword).isEmpty then 0 else 1) < 30)) = true
  line : (apos.endLine == cpos.line) = true
  trees : backTo cpos (starEach [e, f] X.env) = [(false, eval e X.env), (false, eval f X.env)]

/-- a is a dict, whatever its keys -/
def IsD (H : Hp) (a : Addr) : Prop := (∃ kvs, Rd H a (.dK kvs)) ∨ ∃ kvs, Rd H a (.dT kvs)
theorem isD_at {X : Cx} {pins : List (Addr × Obj)} {σ : St} {H : Hp} {s : Shared} {a : Addr} (I : Inv X pins σ H s) (d : IsD H a) :
    s.TypeIs (.ref a) "dict" ∧ (∀ b, Value.ref a = .ref b → ∃ ob, s.heap.get? b = some ob ∧ ob.dict = none) ∧ (a == sysModules) = false := by
  rcases d with ⟨kvs, e⟩ | ⟨kvs, e⟩
  · obtain ⟨_, hd, vs, _, dd⟩ := dk_rd I.hok e
    refine ⟨dd.typeIs, fun b q => ?_, hd⟩
    cases q
    obtain ⟨ob, _, _, h1, h2, _⟩ := dd
    exact ⟨ob, h1, h2.2.1⟩
  · obtain ⟨_, hd, xs, _, dd⟩ := dt_rd I.hok e
    refine ⟨dd.typeIs, fun b q => ?_, hd⟩
    cases q
    obtain ⟨ob, _, _, h1, h2, _⟩ := dd
    exact ⟨ob, h1, h2.2.1⟩

section
variable {X : Cx} {pins : List (Addr × Obj)} {σ : St} {H : Hp} {s : Shared} {a : Addr} {y d : V} {u r : Value} {o : Option V} {A : Around} {E : Value → Shared → Prop}
/-- d.get(y) -/
theorem d_get1 {Q : Value → Shared → Prop} (hu : A.units + 1 < cLine) (I : Inv X pins σ H s) (g : DGet H a y o) (ry : RelV y u) (h : ∀ w' s', Inv X pins σ H s' → RelV (o.getD .non) w' → Q w' s') :
    wpAny (model X.prog X.w) A (call (.builtin "dict.get") [.ref a, u]) Q E s := by
  rcases g with ⟨kvs, k, e, ey, l⟩ | ⟨kvs, k, b, e, ey, eb, l⟩
  · subst ey
    obtain ⟨z, hd, vs, rel, dd⟩ := dk_rd I.hok e
    refine call_meetsIn PySem.F.slot_dict_get dd.typeIs PySem.F.entry_dict_get (PySem.F.args_dict_get_2 _ _) (meets_dict_get (mixKind X.prog X.w) a (kV_is ry) hd) ⟨_, dd.mapOf, h _ _ (I.tok _) ?_⟩
    rw [l]
    exact (rel.val k).getD rfl
  · subst ey
    cases (show u = Value.ref b from ry)
    obtain ⟨z, hd, xs, rel, dd⟩ := dt_rd I.hok e
    refine call_meetsIn PySem.F.slot_dict_get dd.typeIs PySem.F.entry_dict_get (PySem.F.args_dict_get_2 _ _) (meetsH_dict_get (tupleKind (mixKind X.prog X.w)) a b hd) ⟨tupleKind_room_in1 hu, k, xs, key_of I.hok eb, dd, h _ _ (I.tok _) ?_⟩
    rw [l]
    exact (rel.val k).getD rfl
/-- d.get(y, x) -/
theorem d_get2 {Q : Value → Shared → Prop} (hu : A.units + 1 < cLine) (I : Inv X pins σ H s) (g : DGet H a y o) (ry : RelV y u) (rd : RelV d r) (h : ∀ w' s', Inv X pins σ H s' → RelV (o.getD d) w' → Q w' s') :
    wpAny (model X.prog X.w) A (call (.builtin "dict.get") [.ref a, u, r]) Q E s := by
  rcases g with ⟨kvs, k, e, ey, l⟩ | ⟨kvs, k, b, e, ey, eb, l⟩
  · subst ey
    obtain ⟨z, hd, vs, rel, dd⟩ := dk_rd I.hok e
    refine call_meetsIn PySem.F.slot_dict_get dd.typeIs PySem.F.entry_dict_get (PySem.F.args_dict_get_3 _ _ _) (meets_dict_get_default (mixKind X.prog X.w) a (kV_is ry) hd r) ⟨_, dd.mapOf, h _ _ (I.tok _) ?_⟩
    rw [l]
    exact (rel.val k).getD rd
  · subst ey
    cases (show u = Value.ref b from ry)
    obtain ⟨z, hd, xs, rel, dd⟩ := dt_rd I.hok e
    refine call_meetsIn PySem.F.slot_dict_get dd.typeIs PySem.F.entry_dict_get (PySem.F.args_dict_get_3 _ _ _) (meetsH_dict_get_default (tupleKind (mixKind X.prog X.w)) a b hd r) ⟨tupleKind_room_in1 hu, k, xs, key_of I.hok eb, dd, h _ _ (I.tok _) ?_⟩
    rw [l]
    exact (rel.val k).getD rd
end

def tDGet1 (td ty : TE) : TE := fun σ H Q => td σ H fun x H1 => ∃ a, x = .ref a ∧ IsD H1 a ∧ ty σ H1 fun y H2 => ∃ o, DGet H2 a y o ∧ Q (o.getD .non) H2
def tDGet2 (td ty tx : TE) : TE := fun σ H Q => td σ H fun x H1 => ∃ a, x = .ref a ∧ IsD H1 a ∧ ty σ H1 fun y H2 => tx σ H2 fun z H3 => ∃ o, DGet H3 a y o ∧ Q (o.getD z) H3
/-- d.pop(k): there; d.pop(k, x): there or not -/
def tDPop1 (td ty : TE) : TE := fun σ H Q => td σ H fun x H1 => ∃ a, x = .ref a ∧ IsD H1 a ∧ ty σ H1 fun y H2 => ∃ kvs k v, H2 a = some (.dK kvs) ∧ y = kV k ∧ valV kvs k = some v ∧ Q v (upd H2 a (.dK (dropK kvs k)))
def tDPop2 (td ty tx : TE) : TE := fun σ H Q => td σ H fun x H1 => ∃ a, x = .ref a ∧ IsD H1 a ∧ ty σ H1 fun y H2 => tx σ H2 fun z H3 => ∃ kvs k, H3 a = some (.dK kvs) ∧ y = kV k ∧
  (∀ v, valV kvs k = some v → Q v (upd H3 a (.dK (dropK kvs k)))) ∧ (valV kvs k = none → Q z H3)
section
variable {X : Cx} {o e f : Expr} {apos cpos : Pos} {td ty tx : TE}
theorem pe_dget1 (hu : X.A.units + 1 < cLine) (ho : PE X o td) (he : PE X e ty) (m : M1 X o "get" apos e cpos) : PE X (.Call (.Attribute o "get" apos) [e] [] cpos) (tDGet1 td ty) := by
  intro pins s σ H Q I h
  refine wpAny_Call_method m.base m.few m.line PySem.F.plainAttrs_dict PySem.F.slot_dict_get PySem.F.type_dict_get (thn (ho pins s σ H _ I h) fun u s1 ⟨x, H1, I1, rx, a, ex, d, q1⟩ => ?_)
  subst ex
  obtain rfl : u = Value.ref a := rx
  obtain ⟨t1, t2, _⟩ := isD_at I1 d
  refine ⟨t1, t2, ?_⟩
  rw [m.trees]
  refine Calls.callWith_builtin rfl (Calls.evalArgs_plain (Calls.spliced_cons (thn (he pins s1 σ H1 _ I1 q1) fun iv s2 ⟨y, H2, I2, ry, ov, g, q2⟩ => Calls.spliced_nil ?_)))
  exact d_get1 hu I2 g ry fun w' s3 I3 rw' => ⟨_, H2, I3, rw', q2⟩
theorem pe_dget2 (hu : X.A.units + 1 < cLine) (ho : PE X o td) (he : PE X e ty) (hf : PE X f tx) (m : M2 X o "get" apos e f cpos) : PE X (.Call (.Attribute o "get" apos) [e, f] [] cpos) (tDGet2 td ty tx) := by
  intro pins s σ H Q I h
  refine wpAny_Call_method m.base m.few m.line PySem.F.plainAttrs_dict PySem.F.slot_dict_get PySem.F.type_dict_get (thn (ho pins s σ H _ I h) fun u s1 ⟨x, H1, I1, rx, a, ex, d, q1⟩ => ?_)
  subst ex
  obtain rfl : u = Value.ref a := rx
  obtain ⟨t1, t2, _⟩ := isD_at I1 d
  refine ⟨t1, t2, ?_⟩
  rw [m.trees]
  refine Calls.callWith_builtin rfl (Calls.evalArgs_plain (Calls.spliced_cons (thn (he pins s1 σ H1 _ I1 q1) fun iv s2 ⟨y, H2, I2, ry, q2⟩ =>
    Calls.spliced_cons (thn (hf pins s2 σ H2 _ I2 q2) fun fv s3 ⟨z, H3, I3, rz, ov, g, q3⟩ => Calls.spliced_nil ?_))))
  exact d_get2 hu I3 g ry rz fun w' s4 I4 rw' => ⟨_, H3, I4, rw', q3⟩
theorem pe_dpop1 (ho : PE X o td) (he : PE X e ty) (m : M1 X o "pop" apos e cpos) : PE X (.Call (.Attribute o "pop" apos) [e] [] cpos) (tDPop1 td ty) := by
  intro pins s σ H Q I h
  refine wpAny_Call_method m.base m.few m.line PySem.F.plainAttrs_dict PySem.F.slot_dict_pop PySem.F.type_dict_pop (thn (ho pins s σ H _ I h) fun u s1 ⟨x, H1, I1, rx, a, ex, d, q1⟩ => ?_)
  subst ex
  obtain rfl : u = Value.ref a := rx
  obtain ⟨t1, t2, _⟩ := isD_at I1 d
  refine ⟨t1, t2, ?_⟩
  rw [m.trees]
  refine Calls.callWith_builtin rfl (Calls.evalArgs_plain (Calls.spliced_cons (thn (he pins s1 σ H1 _ I1 q1) fun iv s2 ⟨y, H2, I2, ry, kvs, k, v, ea, ey, l, q2⟩ => Calls.spliced_nil ?_)))
  subst ey
  exact d_pop I2 ea ry l (.inl rfl) fun w' s3 I3 rw' => ⟨v, _, I3, rw', q2⟩
theorem pe_dpop2 (ho : PE X o td) (he : PE X e ty) (hf : PE X f tx) (m : M2 X o "pop" apos e f cpos) : PE X (.Call (.Attribute o "pop" apos) [e, f] [] cpos) (tDPop2 td ty tx) := by
  intro pins s σ H Q I h
  refine wpAny_Call_method m.base m.few m.line PySem.F.plainAttrs_dict PySem.F.slot_dict_pop PySem.F.type_dict_pop (thn (ho pins s σ H _ I h) fun u s1 ⟨x, H1, I1, rx, a, ex, d, q1⟩ => ?_)
  subst ex
  obtain rfl : u = Value.ref a := rx
  obtain ⟨t1, t2, _⟩ := isD_at I1 d
  refine ⟨t1, t2, ?_⟩
  rw [m.trees]
  refine Calls.callWith_builtin rfl (Calls.evalArgs_plain (Calls.spliced_cons (thn (he pins s1 σ H1 _ I1 q1) fun iv s2 ⟨y, H2, I2, ry, q2⟩ =>
    Calls.spliced_cons (thn (hf pins s2 σ H2 _ I2 q2) fun fv s3 ⟨z, H3, I3, rz, kvs, k, ea, ey, q3, q4⟩ => Calls.spliced_nil ?_))))
  subst ey
  cases l : valV kvs k with
  | some v => exact d_pop I3 ea ry l (.inr ⟨fv, rfl⟩) fun w' s4 I4 rw' => ⟨v, _, I4, rw', q3 v l⟩
  | none => exact d_popD I3 ea ry l fun s4 I4 => ⟨z, H3, I4, rz, q4 l⟩
end

/-! ### dict(d): a copy -/
section
variable {X : Cx} {pins : List (Addr × Obj)} {σ : St} {H : Hp} {s : Shared} {a : Addr} {kvs : List (Key × V)} {A : Around} {E : Value → Shared → Prop}
theorem d_copyOf {Q : Value → Shared → Prop} (I : Inv X pins σ H s) (e : Rd H a (.dK kvs)) (h : ∀ p s', H p = none → Inv X pins σ (upd H p (.dK kvs)) s' → Q (.ref p) s') : wpAny (model X.prog X.w) A (call (.type "dict") [.ref a]) Q E s := by
  obtain ⟨z, hd, vs, rel, dd⟩ := dk_rd I.hok e
  refine kt_call_dict hd dd (by rw [← rel.length]; exact z) fun h' dd' hs => ?_
  refine h _ _ (I.hok.fresh (Nat.le_refl _)) (I.laid (a := s.heap.objs.size) (o := .dK kvs) (t' := s.toks) (fun b q hq => ?_) (Nat.le_refl _) (dk_new z (beq_eq_false_iff_ne.mpr (Ne.symm (Nat.ne_of_lt I.big))) rel dd'))
  exact (hs.2 b (Nat.ne_of_lt (Heap.lt_size hq))).trans (Heap.get?_push_of_some _ hq)
end


section
variable {X : Cx} {pins : List (Addr × Obj)} {σ : St} {H : Hp} {s : Shared} {a : Addr} {y : V} {u : Value} {A : Around} {E : Value → Shared → Prop}
/-- d[y], not there: a KeyError -/
theorem d_missing {Q : Value → Shared → Prop} (hu : A.units + 1 < cLine) (hh : A.handled = none) (I : Inv X pins σ H s) (g : DGet H a y none) (ry : RelV y u)
    (h : ∀ h' e t', Heap.NewExc s.heap h' e "KeyError" → E (.ref e) { s with heap := h', toks := t' }) : wpAny (model X.prog X.w) A (getItem (.ref a) u) Q E s := by
  rcases g with ⟨kvs, k, e, ey, l⟩ | ⟨kvs, k, b, e, ey, eb, l⟩
  · subst ey
    obtain ⟨z, hd, vs, rel, dd⟩ := dk_rd I.hok e
    have hn : valueAt vs k = none := RelO.none_of (by rw [l]; exact rel.val k)
    exact wpAny_getItem_missing_of (kV_is ry) hd hh dd.mapOf hn fun h' ex ne => h h' ex _ ne
  · subst ey
    cases (show u = Value.ref b from ry)
    obtain ⟨z, hd, xs, rel, dd⟩ := dt_rd I.hok e
    have hn : (atKey xs k).map (·.2) = none := RelO.none_of (by rw [l]; exact rel.val k)
    exact wpAny_getItem_missing_heap (tupleKind_room_in1 hu) (key_of I.hok eb) hd hh dd (Option.map_eq_none_iff.mp hn) fun h' ex ne => h h' ex _ ne
end
end L2

namespace L2
open PySem PySem.Spec PyProof.Rows

theorem list_keys_none : typeLookup (.type "list") "keys" = pure none := am_miss_of_fast (by first | decide +kernel | rfl)
theorem ud_entry : entryFor table "dict.update.loop" = some Builtin.«dict.update.loop» := entryFor_of_tree (by kernel_rfl)
theorem ud_plain : plainId "dict.update.loop" = true := by decide +kernel

section
variable {prog : Program} {w : World} {A : Around} {E : Value → Shared → Prop}
/-- a list has no attribute 'keys': an AttributeError is made, and forgotten -/
theorem miss_list {s : Shared} {a : Addr} {o : Obj} {xs : Array Value} {k : Nat} {Q : Option Value → Shared → Prop} (hx : s.heap.get? a = some o) (hc : o.cls = .type "list") (hdat : o.data = .seq xs k) (hd : o.dict = none) (hA : A.handled = none)
    (h : ∀ h' tk, (∀ b ob, s.heap.get? b = some ob → h'.get? b = some ob) → Q none { s with heap := h', toks := tk }) : wpAny (model prog w) A (getAttr? (.ref a) "keys") Q E s := by
  obtain ⟨c, dct, dat, sl⟩ := o
  simp only at hc hdat hd
  subst hc hdat hd
  obtain ⟨hp, g, d, tk, os⟩ := s
  have hT : ∀ tk', (⟨hp, g, d, tk', os⟩ : Shared).TypeIs (.ref a) "list" := fun _ => ⟨_, hx, rfl⟩
  have hmiss := list_keys_none
  have hname : (["__module__", "__name__", "__qualname__", "__doc__", "__annotations__"] : List Str).contains "keys" = false := by decide +kernel
  have hsz : ("keys" : Str).length + 100 ≤ sizeLine := by first | size_fits | decide +kernel
  have f1 := sub_AttributeError
  have f3 := PySem.F.slot_list_getattribute.lookup
  have f4 := PySem.F.slot_list_getattribute.bind (.ref a)
  have f5 := am_list_getattr_none
  unfold getAttr? getAttrBy? getAttrBy
  repeat (any_goals (first | assumption | exact hT _ | ((with_reducible show wpAny _ _ (call (Value.builtin "list.__getattribute__") _ _) _ _ _); refine call_meets PySem.F.slot_list_getattribute (hT _) am_entry_list_getattribute (PySem.F.args_list_getattribute_2 _ _) (meets_getattribute_miss_list a xs k sl "keys" _ hmiss hname hsz) ⟨hx, hA, fun h' tk' e hx' => ?_⟩) | wp_step))
  obtain ⟨t', u', he⟩ := hx'.there
  show wpAny _ _ (getattributeRaised _ _ _ _ _ _ _) _ _ _
  unfold getattributeRaised
  repeat (any_goals (first | assumption | wp_step))
  all_goals first | exact h _ _ hx'.keeps | (dsimp only; repeat (any_goals (first | assumption | exact h _ _ hx'.keeps | wp_step)))

/-- the walk over the pairs -/
theorem upd_loop {R : Result → Shared → Prop} {S I l : Addr} {items : Array Value} {res : Value} (hh : A.handled = none) (hlI : l ≠ I) (hSI : S ≠ I) (hSl : S ≠ l) :
    ∀ (rest : List (Key × Value)) (i : Nat) (acc : List (Key × Value)) (ix : Int) (t : Tok) (s : Shared), items.size = i + rest.length → acc.length + rest.length ≤ sizeLine →
      (∀ (j : Nat) (q : Key × Value), rest[j]? = some q → ∃ (b : Addr) (u : Value), items[i + j]? = some (.ref b) ∧ b ≠ S ∧ b ≠ I ∧ IsTup s.heap b #[u, q.2] ∧ keyIs q.1 u = true) →
      s.heap.IsListIter I l i → s.heap.IsList l items → s.heap.DictOf (mixKind prog w) S acc →
      (∀ h' tk, h'.DictOf (mixKind prog w) S (merged acc rest) → (∀ b o, b ≠ S → b ≠ I → s.heap.get? b = some o → h'.get? b = some o) → R (.ok (.ret res)) { s with heap := h', toks := tk }) →
      codeAny (model prog w) A (.builtin "dict.update.loop" ⟨[.ref S, .ref I, .int ix t, res], []⟩) R s
  | [], i, acc, ix, t, s, hsz, hln, ht, hit, hl, hm, hR => by
    refine codeAny_builtin ud_entry ?_
    rw [Around.under_plainId ud_plain _]
    show wpAny _ A.in1 (pyNext (.ref I) >>= _) _ _ s
    refine wpAny_bind (wpAny_pyNext_list_end (A := A.in1) hh hit hl (by first | exact Array.getElem?_eq_none (Nat.le_of_eq hsz) | (simp at hsz; simp; omega)) fun h' he => ?_)
    show wpAny _ A.in1 (Builtin.Dict.addKeywords S [] >>= _) _ _ _
    refine wpAny_bind (wpAny_pure (wpAny_pure ?_))
    exact hR h' s.toks (hm.extBut he hSI) fun b o _ hb e => he b o hb e
  | q :: rest, i, acc, ix, t, s, hsz, hln, ht, hit, hl, hm, hR => by
    obtain ⟨b, u, hb, hbS, hbI, htup, hk⟩ := ht 0 q rfl
    rw [List.length_cons] at hsz hln
    refine codeAny_builtin ud_entry ?_
    rw [Around.under_plainId ud_plain _]
    show wpAny _ A.in1 (pyNext (.ref I) >>= _) _ _ s
    refine wpAny_bind (wpAny_pyNext_list_item (x := .ref b) hit hl (by simpa using hb) fun h1 hit1 hs1 => ?_)
    have ht1 : IsTup h1 b #[u, q.2] := htup.extBut hs1.extBut hbI
    have hl1 : h1.IsList l items := hl.extBut hs1.extBut hlI
    have hm1 : h1.DictOf (mixKind prog w) S acc := hm.extBut hs1.extBut hSI
    obtain ⟨o, ho, hc, n, hd⟩ := id ht1
    show wpAny _ A.in1 (holding [Value.ref b] _ >>= _) _ _ _
    refine wpAny_bind (wpAny_holding ?_)
    refine wpAny_bind (wpAny_tryCatch ?_)
    unfold Builtin.Dict.pairItems
    refine wpAny_bind (wpAny_typeOf (T := "tuple") ⟨o, ho, hc⟩ ?_)
    rw [if_pos (by first | decide | rfl | simp)]
    refine wpAny_bind (wpAny_seqItems ho hd (wpAny_pure ?_))
    show wpAny _ A.in1 (holding [u, q.2] (dictSet S u q.2)) _ _ _
    refine wpAny_holding (wpAny_dictSet_pairs (knd := mixKind prog w) (k := q.1) hk hm1 (fun h2 hm2 hs2 => ?_) (by omega))
    refine wpAny_pure ⟨plainId_quiet ud_plain _, upd_loop (items := items) hh hlI hSI hSl rest (i + 1) (stored acc q.1 q.2) (ix + 1) 0 _ (show items.size = i + 1 + rest.length by omega) ?_ (fun j q' e => ?_) ?_ ?_ hm2 fun h' tk hd' k => ?_⟩
    · have z := stored_length_le acc q.1 q.2
      omega
    · obtain ⟨b', u', hb', hbS', hbI', htup', hk'⟩ := ht (j + 1) q' (by simpa using e)
      refine ⟨b', u', ?_, hbS', hbI', (htup'.extBut hs1.extBut hbI').extBut hs2.extBut hbS', hk'⟩
      rw [show i + 1 + j = i + (j + 1) by omega]
      exact hb'
    · exact hit1.at fun o' e => hs2.extBut I o' (Ne.symm hSI) e
    · exact hl1.extBut hs2.extBut (Ne.symm hSl)
    · exact hR h' tk hd' fun c oc h3 h4 e => k c oc h3 h4 (hs2.extBut c oc h3 (hs1.extBut c oc h4 e))

/-- dict(l) of a list of pairs -/
theorem call_dict_pairs {s : Shared} {l : Addr} {ol : Obj} {items : Array Value} {n : Nat} {prs : List (Key × Value)} {Q : Value → Shared → Prop} (hh : A.handled = none) (hl : s.heap.get? l = some ol) (hc : ol.cls = .type "list") (hd : ol.dict = none)
    (hdat : ol.data = .seq items n) (hsz : items.size = prs.length) (hln : prs.length ≤ sizeLine)
    (ht : ∀ (j : Nat) (q : Key × Value), prs[j]? = some q → ∃ (b : Addr) (u : Value), items[j]? = some (.ref b) ∧ IsTup s.heap b #[u, q.2] ∧ keyIs q.1 u = true)
    (h : ∀ h' tk, h'.DictOf (mixKind prog w) s.heap.objs.size (merged [] prs) → (∀ b o, s.heap.get? b = some o → h'.get? b = some o) → Q (.ref s.heap.objs.size) { s with heap := h', toks := tk }) :
    wpAny (model prog w) A (call (.type "dict") [.ref l]) Q E s := by
  refine callType_codes (Q₁ := fun obj s₁ => obj = .ref s.heap.objs.size ∧ s₁ = { s with heap := s.heap.push { cls := .type "dict", data := .dict #[] } }) PySem.F.kt_called_dict (PySem.F.kt_typeCall_dict_1 _) PySem.F.entry_dict_init (kt_code_dict_new _ ⟨rfl, rfl⟩) ?_
  rintro obj s₁ ⟨rfl, rfl⟩
  have hnew : (s.heap.push { cls := .type "dict", data := .dict #[] }).DictOf (mixKind prog w) s.heap.objs.size [] := Heap.DictOf.new s.heap
  have k0 : ∀ b o, s.heap.get? b = some o → (s.heap.push { cls := .type "dict", data := .dict #[] }).get? b = some o := fun b o e => Heap.get?_push_of_some _ e
  refine ⟨hnew.typeIs, PySem.F.args_dict_init_2 _ _, ?_⟩
  unfold Builtin.«dict.__init__»
  refine wpAny_bind ?_
  unfold Builtin.Dict.selfAndRest
  refine wpAny_bind (wpAny_notOrdered_dict hnew.typeIs ?_)
  show wpAny _ _ (pure (s.heap.objs.size, [Value.ref l])) _ _ _
  refine wpAny_pure ?_
  show wpAny _ _ (Builtin.Dict.updateFrom "dict.__init__" s.heap.objs.size (.ref l) [] .none) _ _ _
  unfold Builtin.Dict.updateFrom
  refine wpAny_bind (wpAny_typeOf (T := "list") ⟨ol, k0 _ _ hl, hc⟩ ?_)
  rw [if_pos (by first | decide | rfl | simp)]
  refine wpAny_bind (miss_list (k0 _ _ hl) hc hdat hd hh fun h1 tk1 hk1 => ?_)
  rw [if_pos (show (none : Option Value).isNone = true from rfl)]
  refine wpAny_bind (wpAny_rule ?_)
  have hl1 : h1.IsList l items := ⟨ol, hk1 _ _ (k0 _ _ hl), hc, n, hdat⟩
  have hS1 : s.heap.objs.size < h1.objs.size := by
    have e : (s.heap.push { cls := .type "dict", data := .dict #[] }).get? s.heap.objs.size = some { cls := .type "dict", data := .dict #[] } := Heap.get?_push_size _ rfl
    exact Heap.lt_size (hk1 _ _ e)
  refine wpAny_bind (wpAny_pyIter_list hl1 ?_)
  have k2 : ∀ b o, h1.get? b = some o → (h1.push { cls := .type "list_iterator", data := .fields #[.ref l, .int 0 0] }).get? b = some o := fun b o e => Heap.get?_push_of_some _ e
  have hlt : l < s.heap.objs.size := Heap.lt_size hl
  have key := upd_loop (prog := prog) (w := w) (A := A.in1) (R := wants (fun r s₂ => r = .none ∧ Q (.ref s.heap.objs.size) s₂) E) (S := s.heap.objs.size) (I := h1.objs.size) (l := l) (items := items) (res := Value.none) hh
    (Nat.ne_of_lt (Nat.lt_trans hlt hS1)) (Nat.ne_of_lt hS1) (Nat.ne_of_gt hlt) prs 0 [] 0 0
    { s with heap := h1.push { cls := .type "list_iterator", data := .fields #[.ref l, .int 0 0] }, toks := tk1 } (by rw [hsz, Nat.zero_add]) (by rw [List.length_nil, Nat.zero_add]; exact hln)
    (fun j q e => by
      obtain ⟨b, u, e1, e2, e3⟩ := ht j q e
      have hb : b < s.heap.objs.size := e2.lt
      exact ⟨b, u, by rw [Nat.zero_add]; exact e1, Nat.ne_of_lt hb, Nat.ne_of_lt (Nat.lt_trans hb hS1), e2.keeps fun c o z => k2 _ _ (hk1 _ _ (k0 _ _ z)), e3⟩)
    ⟨_, Heap.get?_push_size _ rfl, rfl, rfl⟩ (hl1.at fun o e => k2 _ _ e) ((hnew.at fun o e => hk1 _ _ e).at fun o e => k2 _ _ e)
    (fun h' tk hd' k => ⟨rfl, h h' tk hd' fun b o e => k b o (Nat.ne_of_lt (Heap.lt_size e)) (Nat.ne_of_lt (Nat.lt_trans (Heap.lt_size e) hS1)) (k2 _ _ (hk1 _ _ (k0 _ _ e)))⟩)
  first
    | exact wpAny_pure ⟨plainId_quiet ud_plain _, key⟩
    | exact wpAny_bind (wpAny_pure (wpAny_pure ⟨plainId_quiet ud_plain _, key⟩))
end

section
variable {X : Cx}
theorem pairs_of {pins : List (Addr × Obj)} {σ : St} {H : Hp} {s : Shared} (I : Inv X pins σ H s) : ∀ {ps : List Addr} {kvs : List (Key × V)}, Paired (fun p kv => SqT X.K H p [kV kv.1, kv.2]) ps kvs →
    ∃ prs : List (Key × Value), KV kvs prs ∧ prs.length = ps.length ∧ ∀ (j : Nat) (q : Key × Value), prs[j]? = some q → ∃ (b : Addr) (u : Value), ps[j]? = some b ∧ IsTup s.heap b #[u, q.2] ∧ keyIs q.1 u = true
  | _, _, .nil => ⟨[], .nil, rfl, fun j q e => by simp at e⟩
  | _, _, .cons (a := p) (b := kv) h t => by
    obtain ⟨prs, r, hl, hp⟩ := pairs_of I t
    obtain ⟨its, rv, ht, _⟩ := I.tuple h
    obtain ⟨u, y, ei, ru, ry⟩ := vals2 rv
    subst ei
    refine ⟨(kv.1, y) :: prs, .cons ⟨rfl, ry⟩ r, by rw [List.length_cons, List.length_cons, hl], fun j q e => ?_⟩
    cases j with
    | zero =>
      have e' : (kv.1, y) = q := Option.some.inj e
      subst e'
      exact ⟨p, u, rfl, ht, kV_is (P := X.prog) (w := X.w) ru⟩
    | succ j =>
      obtain ⟨b, u', e1, e2, e3⟩ := hp j q (by simpa using e)
      exact ⟨b, u', by simpa using e1, e2, e3⟩
theorem refs_at : ∀ {ps : List Addr} {us : List Value}, Vals (ps.map V.ref) us → us = ps.map Value.ref
  | [], us, r => by
    rw [List.map_nil] at r
    cases r
    rfl
  | p :: ps, us, r => by
    rw [List.map_cons] at r
    cases r with
    | cons h t =>
      cases h
      rw [List.map_cons, ← refs_at t]
/-- dict(xs) of a list of pairs (key, value): later pairs win, the place is the first one's -/
theorem call_dictP (hcalm : X.calm = true) : CallR X (.type "dict") (fun xs H Q => ∃ (a : Addr) (ps : List Addr) (kvs : List (Key × V)), xs = [.ref a] ∧ SqL X.K H a (ps.map V.ref) ∧ Paired (fun p kv => SqT X.K H p [kV kv.1, kv.2]) ps kvs ∧
    ∀ p, H p = none → Q (.ref p) (upd H p (.dK (mergeK [] kvs)))) := by
  intro pins s σ H xs us Q I r q
  obtain ⟨a, ps, kvs, ex, hq, hp, q⟩ := q
  subst ex
  obtain ⟨u, eu, rx⟩ := vals1 r
  subst eu
  cases rx
  obtain ⟨its, rv, pl, hz⟩ := I.list hq
  have ei := refs_at rv
  subst ei
  rw [List.length_map] at hz
  obtain ⟨prs, rel, hl, hpr⟩ := pairs_of I hp
  obtain ⟨o, n, ho, hc, hd, hdat⟩ := pl
  refine call_dict_pairs (prs := prs) (I.ok.hd hcalm) ho hc hd hdat (by simp [hl]) (by rw [hl]; exact hz) (fun j q' e => ?_) fun h' tk hd' k => ?_
  · obtain ⟨b, u, e1, e2, e3⟩ := hpr j q' e
    exact ⟨b, u, by simp [e1], e2, e3⟩
  · have hm : (s.heap.objs.size == sysModules) = false := beq_eq_false_iff_ne.mpr (Nat.ne_of_gt I.big)
    have hlen : (mergeK [] kvs).length ≤ sizeLine := by
      refine Nat.le_trans (length_mergeK kvs []) ?_
      rw [List.length_nil, Nat.zero_add, rel.length, hl]
      exact hz
    exact ⟨.ref s.heap.objs.size, upd H s.heap.objs.size (.dK (mergeK [] kvs)), I.laid (t' := tk) k (Nat.le_refl _) (show ObjOk X.prog X.w _ _ _ (.dK (mergeK [] kvs)) from ⟨hlen, hm, merged [] prs, KV.merge rel .nil, hd'⟩), rfl, q _ (I.hok.fresh (Nat.le_refl _))⟩
end
end L2

namespace L2
open PySem PySem.Spec PyProof.Rows

theorem boot_reversed5 : bootBuiltins "reversed" = some (.type "reversed") := by decide +kernel

section
variable {X : Cx} {pins : List (Addr × Obj)} {σ : St} {H : Hp} {s : Shared} {h' : Heap}
/-- several records of ours have turned -/
theorem Inv.turnedL {t' : Nat} {ch : List Addr} (I : Inv X pins σ H s) (k : ∀ b o, b ∉ ch → s.heap.get? b = some o → h'.get? b = some o) (hf : ∀ b ∈ ch, FpOk X pins H b) : Inv X pins σ H { s with heap := h', toks := t' } := by
  have nit : ∀ b u, H b = some u → b ∉ ch := fun b u e z => by
    have q := (hf b z).1
    rw [q] at e; cases e
  refine I.step (g' := s.gens) (d' := s.drawn) (ch := ch) (fun b hb => ⟨(hf b hb).2.2.2.1, (hf b hb).2.1, (hf b hb).2.2.2.2.1, (hf b hb).2.2.2.2.2⟩) (fun b o _ _ hc e _ => k b o hc e) (fun b o _ _ hc e _ => ⟨o.slots, k b o hc e⟩)
    (fun _ _ _ _ n => n) (fun b o hc e => ⟨o, k b o hc e⟩) (fun _ _ e => e) (fun _ _ _ e => e) (fun b ps e => ⟨#[], by rw [e]; simp⟩) (fun m hm => ?_) (fun b u e => ?_) I.bare
  · obtain ⟨o, es, ep, ho, r⟩ := hm
    exact ⟨o, es, ep, k _ o (fun z => (hf _ z).2.1 rfl) ho, r⟩
  · refine (I.hok b u e).stay (fun c v hc q => k c v ?_ q) (fun _ q => q) fun _ _ q => q
    rcases hc with z | z
    · rw [z]; exact nit b u e
    · exact nit c _ z
/-- .. and one new object is laid -/
theorem Inv.turnedNew {t' : Nat} {ch : List Addr} {T : Addr} {ob : HO} (I : Inv X pins σ H s) (k : ∀ b o, b ∉ ch → s.heap.get? b = some o → h'.get? b = some o) (hf : ∀ b ∈ ch, FpOk X pins H b) (hT : s.heap.objs.size ≤ T)
    (new : ObjOk X.prog X.w (upd H T ob) h' T ob) : Inv X pins σ (upd H T ob) { s with heap := h', toks := t' } := by
  have hn : H T = none := I.hok.fresh hT
  have nit : ∀ b u, H b = some u → b ∉ ch := fun b u e z => by
    have q := (hf b z).1
    rw [q] at e; cases e
  refine I.step (g' := s.gens) (d' := s.drawn) (ch := ch) (fun b hb => ⟨(hf b hb).2.2.2.1, (hf b hb).2.1, (hf b hb).2.2.2.2.1, (hf b hb).2.2.2.2.2⟩) (fun b o _ _ hc e _ => k b o hc e) (fun b o _ _ hc e _ => ⟨o.slots, k b o hc e⟩)
    (fun b o _ e n => ?_) (fun b o hc e => ⟨o, k b o hc e⟩) (fun b xs e => ?_) (fun b o u e => ?_) (fun b ps e => ⟨#[], ?_⟩) (fun m hm => ?_) (fun b u e => ?_) I.bare
  · rw [upd_ne (Nat.ne_of_lt (Nat.lt_of_lt_of_le (Heap.lt_size e) hT))]; exact n
  · rw [upd_ne (ne_of_none e hn)]; exact e
  · rw [upd_ne (ne_of_none e hn)]; exact e
  · rw [upd_ne (ne_of_none e hn), e]; simp
  · obtain ⟨o, es, ep, ho, r⟩ := hm
    exact ⟨o, es, ep, k _ o (fun z => (hf _ z).2.1 rfl) ho, r⟩
  · by_cases hb : b = T
    · subst hb
      rw [upd_same] at e
      cases e
      exact new
    · rw [upd_ne hb] at e
      refine (I.hok b u e).stay (fun c v hc q => k c v ?_ q) (fun c q => by rw [upd_ne (ne_of_none q hn)]; exact q) fun c xs q => by rw [upd_ne (ne_of_none q hn)]; exact q
      rcases hc with z | z
      · rw [z]; exact nit b u e
      · exact nit c _ z

/-! ### locking a thing while a statement runs -/
theorem Inv.lock {d : Addr} {u : HO} (I : Inv X pins σ H s) (h : H d = some u) (mu : Mut (some u)) : ∃ od, Inv X pins σ (upd H d (.frz od u)) s := by
  have x := I.hok d u h
  have ex : ∃ od, s.heap.get? d = some od := by
    cases u with
    | lst xs => obtain ⟨_, _, _, _, e⟩ := x; exact ⟨_, e⟩
    | dK kvs => obtain ⟨_, _, _, _, o, _, _, e, _⟩ := x; exact ⟨o, e⟩
    | dT kvs => obtain ⟨_, _, _, _, o, _, _, e, _⟩ := x; exact ⟨o, e⟩
    | set S n => obtain ⟨o, _, _, _, e, _⟩ := x; exact ⟨o, e⟩
    | ins C dx fs => obtain ⟨_, _, _, e, _⟩ := x; exact ⟨_, e⟩
    | ext φ => obtain ⟨_, ⟨_, e⟩, _⟩ := x; exact ⟨_, e⟩
    | _ => exact False.elim mu
  obtain ⟨od, e⟩ := ex
  have new : ObjOk X.prog X.w (upd H d (.frz od u)) s.heap d (.frz od u) := by
    refine ⟨e, x.stay (fun b v _ q => q) (fun b q => ?_) fun b xs q => ?_⟩
    · rw [upd_ne (fun z => by rw [z, h] at q; cases q; exact mu)]; exact q
    · rw [upd_ne (fun z => by rw [z, h] at q; cases q; exact mu)]; exact q
  exact ⟨od, I.write (x := d) (e := d) (t' := s.toks) (h' := s.heap) (by rw [h]; exact mu) (.inl rfl) (fun b v _ q => q) ⟨od, e⟩ new⟩
theorem Inv.nofrz {d : Addr} {u : HO} (I : Inv X pins σ H s) (h : H d = some u) (mu : Mut (some u)) : ∀ o' u', X.H_0 d ≠ some (.frz o' u') := fun o' u' e => by
  have q := I.base.frzs d o' u' e
  rw [h] at q
  cases q
  exact mu
theorem Inv.unlock {d : Addr} {od : Obj} {u : HO} (I : Inv X pins σ H s) (h : H d = some (.frz od u)) (hn : ∀ o' u', X.H_0 d ≠ some (.frz o' u')) : Inv X pins σ (upd H d u) s := by
  have neH : ∀ b o, H b = some o → (∀ o' u', o ≠ .frz o' u') → b ≠ d := fun b o e hne z => by
    rw [z, h] at e
    cases e
    exact hne _ _ rfl
  have neN : ∀ b, H b = none → b ≠ d := fun b e z => by rw [z, h] at e; cases e
  refine ⟨I.ok, I.os, I.bare, ⟨I.base.keep, I.base.slot, fun b o e n hx => ?_, I.base.there, fun b xs e => ?_, fun b o x e => ?_, fun b ps e => ?_⟩, I.loc, I.cell, ?_, fun x c e => ?_, fun p hp => ?_, fun b o e => ?_, I.len⟩
  · rw [upd_ne (neN b (I.base.free b o e n hx))]; exact I.base.free b o e n hx
  · have q := I.base.tups b xs e
    rw [upd_ne (neH b _ q (fun _ _ z => nomatch z))]; exact q
  · have q := I.base.frzs b o x e
    rw [upd_ne (fun z => by rw [z] at e; exact hn _ _ e)]; exact q
  · obtain ⟨m, q⟩ := I.base.tbls b ps e
    exact ⟨m, by rw [upd_ne (neH b _ q (fun _ _ z => nomatch z))]; exact q⟩
  · rw [upd_ne (neN _ I.free)]; exact I.free
  · rw [upd_ne (neN c (I.freeC x c e))]; exact I.freeC x c e
  · obtain ⟨e, n, r⟩ := I.pin p hp
    exact ⟨e, by rw [upd_ne (neN _ n)]; exact n, r⟩
  · by_cases hb : b = d
    · rw [hb, upd_same] at e
      cases e
      rw [hb]
      obtain ⟨_, x⟩ := I.hok d _ h
      exact x.stay (fun c v _ q => q) (fun c q => by rw [upd_ne (neH c _ q (fun _ _ z => nomatch z))]; exact q) fun c xs q => by rw [upd_ne (neH c _ q (fun _ _ z => nomatch z))]; exact q
    · rw [upd_ne hb] at e
      exact (I.hok b o e).stay (fun c v _ q => q) (fun c q => by rw [upd_ne (neH c _ q (fun _ _ z => nomatch z))]; exact q) fun c xs q => by rw [upd_ne (neH c _ q (fun _ _ z => nomatch z))]; exact q
end
/-- the statement runs while the thing at d is locked (read, not written); d and what stands there are the reading's choice -/
def tLock (t : TS) : TS := fun D σ H => ∃ d u, H d = some u ∧ Mut (some u) ∧ ∀ od, t ⟨fun σ' H' => H' d = some (.frz od u) ∧ D.nx σ' (upd H' d u), fun v H' => H' d = some (.frz od u) ∧ D.rt v (upd H' d u), fun σ' H' => H' d = some (.frz od u) ∧ D.bk σ' (upd H' d u), fun σ' H' => H' d = some (.frz od u) ∧ D.ct σ' (upd H' d u)⟩ σ (upd H d (.frz od u))
def tLockE (t : TE) : TE := fun σ H Q => ∃ d u, H d = some u ∧ Mut (some u) ∧ ∀ od, t σ (upd H d (.frz od u)) fun v H' => H' d = some (.frz od u) ∧ Q v (upd H' d u)
section
variable {X : Cx}
theorem ps_lock {st : Stmt} {t : TS} (h : PS X st t) : PS X st (tLock t) := by
  intro pins s σ H D I hw
  obtain ⟨d, u, hd, mu, hw⟩ := hw
  obtain ⟨od, I1⟩ := I.lock hd mu
  refine thn (h pins s σ _ _ I1 (hw od)) fun f s1 q => ?_
  cases f with
  | next => obtain ⟨σ', H', I2, e, q⟩ := q; exact ⟨σ', _, I2.unlock e (I.nofrz hd mu), q⟩
  | brk => obtain ⟨σ', H', I2, e, q⟩ := q; exact ⟨σ', _, I2.unlock e (I.nofrz hd mu), q⟩
  | cont => obtain ⟨σ', H', I2, e, q⟩ := q; exact ⟨σ', _, I2.unlock e (I.nofrz hd mu), q⟩
  | ret v => obtain ⟨x, σ', H', I2, r, e, q⟩ := q; exact ⟨x, σ', _, I2.unlock e (I.nofrz hd mu), r, q⟩
theorem pe_lock {e : Expr} {t : TE} (h : PE X e t) : PE X e (tLockE t) := by
  intro pins s σ H Q I hw
  obtain ⟨d, u, hd, mu, hw⟩ := hw
  obtain ⟨od, I1⟩ := I.lock hd mu
  refine thn (h pins s σ _ _ I1 (hw od)) fun v s1 ⟨x, H1, I2, r, e2, q⟩ => ?_
  exact ⟨x, _, I2.unlock e2 (I.nofrz hd mu), r, q⟩

/-! ### one iterator just laid -/
theorem pi_one {tg : Expr} {pins : List (Addr × Obj)} {σ : St} {H : Hp} {s : Shared} {R : It → Hp → Prop} {J : It} {tn : Nat → Heap → Prop} {tk : Nat} (I : Inv X pins σ H s) (o : Obj)
    (T : Turn X.prog X.w X.K tg J [s.heap.objs.size] s.heap.objs.size tn) (st : tn 0 (s.heap.push o)) (q : R J H) : PIE X pins σ tg R (.ref s.heap.objs.size) { s with heap := s.heap.push o, toks := tk } := by
  refine ⟨s.heap.objs.size, [s.heap.objs.size], tn, J, H, rfl, I.kept fun b ob e => Heap.get?_push_of_some _ e, T, st, fun b hb => ?_, q⟩
  have e : b = s.heap.objs.size := by simpa using hb
  subst e
  exact I.fpOk (Nat.le_refl _) (I.hok.fresh (Nat.le_refl _))
end

/-! ### range with a step -/
/-- lo, lo + c, .. (n of them) -/
def Itc (lo c : Int) (n : Nat) : It := ⟨fun i _ => i < n, fun i H x H' => H' = H ∧ x = .int (lo + (i : Nat) * c), fun i _ => n ≤ i⟩
theorem turn_rangeC {P : Program} {w : World} {K : PySem.W.Frag} {tg : Expr} (it : Addr) (lo c : Int) (n : Nat) : Turn P w K tg (Itc lo c n) [it] it (fun i h => IsRangeIter h it (lo + (i : Nat) * c) ((n : Int) - (i : Nat)) c) where
  mem := by simp
  obj := fun i h st b hb => by
    have e : b = it := by simpa using hb
    subst e
    exact ⟨_, st, fun v z => nomatch z⟩
  keep := fun i h h' st k => k it (by simp) _ st
  item := by
    intro X hP hw hK hc i pins s σ H E I hf st hg
    subst hP hw hK
    obtain ⟨f0, f1, f2, f3, f4, f5⟩ := hf it (by simp)
    have W := Walks.range (prog := X.prog) (w := X.w) (I.ok.hd hc) it lo c n
    refine W.item i s _ _ hg st fun v h' tk hv st' kk => ?_
    obtain ⟨t, rfl⟩ := hv
    have I1 : Inv X pins σ H { s with heap := h', toks := tk } := I.turned (fun b o hb e => kk b o (by simpa using hb) e) f0 f1 f3 f4 f5
    exact ⟨_, rfl, go_of (s := { s with heap := h', toks := tk }) (n := "range_iterator") st' rfl rfl (by decide) ⟨.int (lo + (i : Nat) * c), H, I1, ⟨t, rfl⟩, ⟨rfl, rfl⟩, st', fun b hb => (hf b hb).1⟩⟩
  done := by
    intro X hP hw hK hc i pins s σ H E I hf st hg
    subst hP hw hK
    obtain ⟨f0, f1, f2, f3, f4, f5⟩ := hf it (by simp)
    exact wpAny_pyNext_range_end (I.ok.hd hc) st (by have : n ≤ i := hg; omega) fun h' eb => ⟨rfl, I.turned (t' := s.toks) (fun b o hb e => eb b o hb e) f0 f1 f3 f4 f5⟩
  self := fun A i s Q E st h => wpAny_pyIter_rangeiter st h
/-- range(i, j, c): small bounds, n items -/
def RgC (i j c : Int) (n : Nat) : Prop := c ≠ 0 ∧ c.natAbs < 1073741824 ∧ Builtin.Range.small i j c = true ∧ Builtin.Range.rangeSize i j c = n
theorem RgC.neg {i j : Int} (ha : -(2 ^ 62) ≤ i) (ha' : i < 2 ^ 62) (hb : -(2 ^ 62) ≤ j) (hb' : j < 2 ^ 62) : RgC i j (-1) (i - j).toNat :=
  ⟨by decide, by decide, PySem.W.small_down ha ha' hb hb', PySem.W.rangeSize_downNat i j⟩
def iRng3 (ta : TA) : TI := fun σ H R => ta σ H fun vs H1 => ∃ (i j c : Int) (n : Nat), vs = [.int i, .int j, .int c] ∧ RgC i j c n ∧ R (Itc i c n) H1
section
variable {X : Cx} {tg : Expr}
theorem pi_range3 {a b c : Expr} {ta : TA} {p pos : Pos} (hg : Gl X "range") (hm : X.mg "range" = none) (ha : PA X [a, b, c] ta)
    (hs : starEach [a, b, c] X.env = (false, eval a X.env) :: starEach [b, c] X.env := by rfl) (hpl : (backTo pos (starEach [b, c] X.env)).any (·.1) = false := by rfl) :
    PI X tg (.Call (.Name "range" p) [a, b, c] [] pos) (iRng3 ta) := by
  intro pins s σ H R I h
  refine Call_ (ld_blt I hg hm boot_range (PyProof.Rows.callWith_type1 (thn (ha pos pins s σ H _ I h) fun us s1 ⟨vs, H1, I1, r1, q1⟩ => ?_) hs hpl))
  obtain ⟨i, j, k, n, e, ⟨c0, c1, c2, c3⟩, q⟩ := q1
  subst e
  cases r1 with
  | cons r rr =>
    cases rr with
    | cons r' rr =>
      cases rr with
      | cons r'' rr =>
        cases rr
        obtain ⟨t, rfl⟩ := r
        obtain ⟨t', rfl⟩ := r'
        obtain ⟨t'', rfl⟩ := r''
        refine call_range_3 c0 ?_ (.inl (PyProof.noPylong_small c1))
        refine wpAny_pyIter_range (IsRange.new ..) c2 ?_
        have I2 : Inv X pins σ H1 { s1 with heap := s1.heap.push { cls := .type "range", data := .fields #[.int i t, .int j t', .int k t''] } } := I1.kept (t' := s1.toks) fun b o e => Heap.get?_push_of_some _ e
        refine pi_one (tk := s1.toks) I2 _ (turn_rangeC _ i k n) ?_ q
        have e1 : i + ((0 : Nat) : Int) * k = i := by simp
        have e2 : (n : Int) - ((0 : Nat) : Int) = Builtin.Range.rangeSize i j k := by rw [c3]; simp
        show IsRangeIter _ _ (i + ((0 : Nat) : Int) * k) ((n : Int) - ((0 : Nat) : Int)) k
        rw [e1, e2]
        exact Heap.get?_push_size _ rfl
end
/-- the turns of a step range, for the for loop -/
theorem for_rangeC {lo c : Int} {n : Nat} {g : TG} {tb : TS} {D : Ends} {σ : St} {H : Hp} (Pv : Nat → St → Hp → Prop) (h0 : Pv 0 σ H)
    (hs : ∀ i σ H, i < n → Pv i σ H → g (.int (lo + (i : Nat) * c)) σ H fun σ2 H2 => tb { D with nx := Pv (i + 1), ct := Pv (i + 1), bk := D.nx } σ2 H2) (hd : ∀ σ H, Pv n σ H → D.nx σ H) :
    ∃ W : Nat → Nat → St → Hp → Prop, (∃ m, W 0 m σ H) ∧ ∀ i m σ H, W i m σ H →
      ((Itc lo c n).stop i H ∧ D.nx σ H) ∨ ((Itc lo c n).go i H ∧ ∃ N : St → Hp → Prop, (∀ σ' H', N σ' H' → ∃ m', m' < m ∧ W (i + 1) m' σ' H') ∧ ∀ x H', (Itc lo c n).yld i H x H' → g x σ H' fun σ2 H2 => tb { D with nx := N, ct := N, bk := D.nx } σ2 H2) := by
  refine ⟨fun i m σ H => m = n - i ∧ i ≤ n ∧ Pv i σ H, ⟨n, by simp, Nat.zero_le _, h0⟩, ?_⟩
  rintro i m σ H ⟨rfl, hi, p⟩
  by_cases hlt : i < n
  · refine .inr ⟨hlt, Pv (i + 1), fun σ' H' p' => ⟨n - (i + 1), by omega, rfl, hlt, p'⟩, fun x H' y => ?_⟩
    obtain ⟨e, y⟩ := y
    subst e y
    exact hs i σ _ hlt p
  · have e : i = n := by omega
    subst e
    exact .inl ⟨Nat.le_refl _, hd σ H p⟩

/-! ### reversed(list) -/
/-- the list at a (n items at the start, which the loop leaves there), from its end -/
def Itv (K : PySem.W.Frag) (a : Addr) (n : Nat) : It :=
  ⟨fun i H => i < n ∧ ∃ (xs : List V) (x : V), SqL K H a xs ∧ xs[n - 1 - i]? = some x, fun i H x H' => H' = H ∧ ∀ xs, SqL K H a xs → xs[n - 1 - i]? = some x, fun i _ => n ≤ i⟩
theorem turn_rev {P : Program} {w : World} {K : PySem.W.Frag} {tg : Expr} (a it : Addr) (n : Nat) : Turn P w K tg (Itv K a n) [it] it (fun i h => i ≤ n ∧ h.IsRevIter it a ((n : Int) - 1 - (i : Nat))) where
  mem := by simp
  obj := fun i h st b hb => by
    have e : b = it := by simpa using hb
    subst e
    obtain ⟨_, o, e, c, d⟩ := st
    exact ⟨o, e, fun v z => by rw [d] at z; cases z⟩
  keep := fun i h h' st k => ⟨st.1, st.2.at fun o e => k it (by simp) o e⟩
  item := by
    intro X hP hw hK hc i pins s σ H E I hf st hg
    subst hP hw hK
    obtain ⟨hin, xs, x, hq, hx⟩ := hg
    obtain ⟨its, rv, p, hz⟩ := I.list hq
    obtain ⟨u, hu, ru⟩ := rv.get hx
    obtain ⟨f0, f1, f2, f3, f4, f5⟩ := hf it (by simp)
    obtain ⟨_, hit⟩ := st
    have e1 : (n : Int) - 1 - ((i : Nat) : Int) = ((n - 1 - i : Nat) : Int) := by omega
    rw [e1] at hit
    refine wpAny_pyNext_rev_item hit p.isList (x := u) (by simpa using hu) fun h' st' sb => ?_
    have e2 : ((n - 1 - i : Nat) : Int) - 1 = (n : Int) - 1 - ((i + 1 : Nat) : Int) := by omega
    rw [e2] at st'
    have I1 : Inv X pins σ H { s with heap := h' } := I.turned (t' := s.toks) (fun b o hb e => (sb.2 b hb).trans e) f0 f1 f3 f4 f5
    obtain ⟨o, e, c, d⟩ := id st'
    exact ⟨u, rfl, go_of (s := { s with heap := h' }) e c d (by decide) ⟨x, H, I1, ru, ⟨rfl, fun ys hy => by rw [I.list_inj hy hq]; exact hx⟩, ⟨hin, st'⟩, fun b hb => (hf b hb).1⟩⟩
  done := by
    intro X hP hw hK hc i pins s σ H E I hf st hg
    subst hP hw hK
    obtain ⟨f0, f1, f2, f3, f4, f5⟩ := hf it (by simp)
    obtain ⟨hin, hit⟩ := st
    have hge : n ≤ i := hg
    have e1 : (n : Int) - 1 - ((i : Nat) : Int) = -1 := by omega
    rw [e1] at hit
    exact wpAny_pyNext_rev_end (I.ok.hd hc) hit fun h' eb => ⟨rfl, I.turned (t' := s.toks) (fun b o hb e => eb b o hb e) f0 f1 f3 f4 f5⟩
  self := fun A i s Q E st h => wpAny_pyIter_revIter st.2 h
def iRev (K : PySem.W.Frag) (ta : TA) : TI := fun σ H R => ta σ H fun vs H1 => ∃ (a : Addr) (xs : List V), vs = [.ref a] ∧ SqL K H1 a xs ∧ R (Itv K a xs.length) H1
section
variable {X : Cx} {tg : Expr}
theorem pi_reversed {e : Expr} {ta : TA} {p pos : Pos} (hg : Gl X "reversed") (hm : X.mg "reversed" = none) (ha : PA X [e] ta) (hs : starEach [e] X.env = [(false, eval e X.env)] := by rfl) : PI X tg (.Call (.Name "reversed" p) [e] [] pos) (iRev X.K ta) := by
  intro pins s σ H R I h
  refine Call_ (ld_blt I hg hm boot_reversed5 (PyProof.Rows.callWith_type1 (thn (ha pos pins s σ H _ I h) fun us s1 ⟨vs, H1, I1, r1, q1⟩ => ?_) hs rfl))
  obtain ⟨a, xs, e, hq, q⟩ := q1
  subst e
  cases r1 with
  | cons r rr =>
    cases rr
    cases r
    obtain ⟨its, rv, p', hz⟩ := I1.list hq
    have hl := rv.length
    have e1 : ((its.toArray.size : Nat) : Int) - 1 = (xs.length : Int) - 1 - ((0 : Nat) : Int) := by simp only [List.size_toArray]; omega
    refine call_reversed_list p'.isList (wpAny_pyIter_revIter (l := a) (i := ((its.toArray.size : Nat) : Int) - 1) ⟨_, Heap.get?_push_size _ rfl, rfl, rfl⟩ ?_)
    refine pi_one (tk := s1.toks) I1 _ (turn_rev a _ xs.length) ⟨Nat.zero_le _, ?_⟩ q
    rw [← e1]
    exact ⟨_, Heap.get?_push_size _ rfl, rfl, rfl⟩
end

/-! ### a str -/
def Its (x : Str) : It := ⟨fun i _ => i < x.cps.size, fun i H v H' => H' = H ∧ ∃ c, x.cps[i]? = some c ∧ v = .str ⟨#[c]⟩, fun i _ => x.cps.size ≤ i⟩
theorem turn_str {P : Program} {w : World} {K : PySem.W.Frag} {tg : Expr} (it : Addr) (x : Str) (t : Tok) (ty : String) (hty : ty = "str_ascii_iterator" ∨ ty = "str_iterator") :
    Turn P w K tg (Its x) [it] it (fun i h => h.IsStrIter it ty x t i) where
  mem := by simp
  obj := fun i h st b hb => by
    have e : b = it := by simpa using hb
    subst e
    obtain ⟨o, e, c, d⟩ := st
    exact ⟨o, e, fun v z => by rw [d] at z; cases z⟩
  keep := fun i h h' st k => let ⟨o, ho, r⟩ := st; ⟨o, k it (by simp) o ho, r⟩
  item := by
    intro X hP hw hK hc i pins s σ H E I hf st hg
    subst hP hw hK
    obtain ⟨f0, f1, f2, f3, f4, f5⟩ := hf it (by simp)
    have W : Walks X.prog X.w X.A it [it] [it] x.cps.size (SignAt x) (fun i h => h.IsStrIter it ty x t i) := by
      rcases hty with e | e
      · rw [e]; exact Walks.strAscii (I.ok.hd hc) it x t
      · rw [e]; exact Walks.strWide (I.ok.hd hc) it x t
    have hno : ["enumerate", "zip", "dict_itemiterator", "dict_reverseitemiterator", "odict_iterator", "itertools.zip_longest", "itertools.pairwise"].contains ty = false := by
      rcases hty with e | e
      · rw [e]; decide
      · rw [e]; decide
    refine W.item i s _ _ hg st fun v h' tk hv st' kk => ?_
    obtain ⟨c, u, hcx, rfl⟩ := hv
    have I1 : Inv X pins σ H { s with heap := h', toks := tk } := I.turned (fun b o hb e => kk b o (by simpa using hb) e) f0 f1 f3 f4 f5
    obtain ⟨oi, e, cc, dd⟩ := id st'
    exact ⟨_, rfl, go_of (s := { s with heap := h', toks := tk }) e cc dd hno ⟨.str ⟨#[c]⟩, H, I1, ⟨u, rfl⟩, ⟨rfl, c, hcx, rfl⟩, st', fun b hb => (hf b hb).1⟩⟩
  done := by
    intro X hP hw hK hc i pins s σ H E I hf st hg
    subst hP hw hK
    obtain ⟨f0, f1, f2, f3, f4, f5⟩ := hf it (by simp)
    have hx : x.cps[i]? = none := Array.getElem?_eq_none hg
    rcases hty with e | e
    · rw [e] at st
      exact wpAny_pyNext_ascii_end (I.ok.hd hc) st hx fun h' eb => ⟨rfl, I.turned (t' := s.toks) (fun b o hb e => eb b o hb e) f0 f1 f3 f4 f5⟩
    · rw [e] at st
      exact wpAny_pyNext_wide_end (I.ok.hd hc) st hx fun h' eb => ⟨rfl, I.turned (t' := s.toks) (fun b o hb e => eb b o hb e) f0 f1 f3 f4 f5⟩
  self := fun A i s Q E st h => by
    rcases hty with e | e
    · rw [e] at st; exact wpAny_pyIter_striter_ascii st h
    · rw [e] at st; exact wpAny_pyIter_striter_wide st h
def iStr (te : TE) : TI := fun σ H R => te σ H fun v H1 => ∃ x, v = .str x ∧ R (Its x) H1
theorem pi_str {X : Cx} {tg e : Expr} {te : TE} (he : PE X e te) : PI X tg e (iStr te) := by
  intro pins s σ H R I h
  refine thn (he pins s σ H _ I h) fun v s1 ⟨y, H1, I1, r1, x, ex, q⟩ => ?_
  subst ex
  obtain ⟨t, rfl⟩ := r1
  cases ha : x.cps.all (· < 128)
  · exact wpAny_pyIter_wide ha (pi_one (tk := s1.toks) I1 _ (turn_str _ x t "str_iterator" (.inr rfl)) ⟨_, Heap.get?_push_size _ rfl, rfl, rfl⟩ q)
  · exact wpAny_pyIter_ascii ha (pi_one (tk := s1.toks) I1 _ (turn_str _ x t "str_ascii_iterator" (.inl rfl)) ⟨_, Heap.get?_push_size _ rfl, rfl, rfl⟩ q)

/-! ### a dict's keys: any dict's entries -/
section
variable {prog : Program} {w : World} {A : Around} {E : Value → Shared → Prop} {s : Shared}
theorem iter_keys {d : Addr} {o : Obj} {es : Array DictEntry} {ep : Nat} {Q : Value → Shared → Prop} (hd : (d == sysModules) = false) (ho : s.heap.get? d = some o) (hc : o.ExactDict) (hdat : o.data = .dict es ep)
    (hQ : Q (.ref s.heap.objs.size) { s with heap := s.heap.push { cls := .type "dict_keyiterator", data := .fields #[.ref d, .int 0 0, .int es.size 0, .int ep 0] } }) :
    wpAny (model prog w) A (pyIter (.ref d)) Q E s := by
  have hT : s.TypeIs (.ref d) "dict" := ⟨o, ho, hc.1⟩
  refine wpAny_pyIter_slot hT F.slot_dict_iter (wpAny_call_entry F.slot_dict_iter hT F.entry_dict_iter ?_ (F.args_dict_iter_1 _))
  unfold Builtin.«dict.__iter__»
  refine wpAny_bind ?_
  unfold Builtin.Dict.dictSlotNone
  refine wpAny_bind (wpAny_notOrdered_dict hT ?_)
  show wpAny _ _ (pure (Value.ref d)) _ _ s
  refine wpAny_pure ?_
  show wpAny _ _ (Builtin.Dict.showsAll d >>= _) _ _ s
  unfold Builtin.Dict.showsAll
  rw [if_neg (by rw [hd]; exact Bool.false_ne_true)]
  refine wpAny_bind (wpAny_pure ?_)
  refine wpAny_bind (wpAny_dictEntries ho hdat ?_)
  refine wpAny_bind (wpAny_dictEpoch ho hdat ?_)
  refine wpAny_bind (wpAny_newObj_type (wpAny_pure ⟨_, rfl, "dict_keyiterator", _, ⟨_, Heap.get?_push_size _ rfl, rfl⟩, F.slot_dict_keyiterator_next.lookup, ?_⟩))
  simpa [rawInt] using hQ
theorem next_key_item {it d : Addr} {i n ep : Nat} {od : Obj} {es : Array DictEntry} {en : DictEntry} {Q : Option Value → Shared → Prop} (hit : s.heap.IsKeyIter it d i n ep) (hod : s.heap.get? d = some od) (hdd : od.data = .dict es ep)
    (hsz : es.size = n) (hx : es[i]? = some en) (hQ : ∀ h', h'.IsKeyIter it d (i + 1) n ep → Heap.SameBut it s.heap h' → Q (some en.key) { s with heap := h' }) : wpAny (model prog w) A (pyNext (.ref it)) Q E s := by
  obtain ⟨o, ho, hc, hd⟩ := id hit
  unfold pyNext
  refine wpAny_bind (wpAny_attempt (wpAny_callSpecial?_slot (name := Str.ofString "__next__") hit.typeIs F.slot_dict_keyiterator_next
    (wpAny_call_entry F.slot_dict_keyiterator_next hit.typeIs F.entry_dict_keyiterator_next ?_ (F.args_dict_keyiterator_next_1 _))))
  refine wpAny_bind (wpAny_pure ?_)
  refine wpAny_bind ?_
  refine wpAny_bind ?_
  first | refine wpAny_bind (wpAny_typeNameOfWhole_keyiter hit.typeIs (wpAny_pure ?_)) | refine wpAny_bind (wpAny_typeNameOf_keyiter hit.typeIs (wpAny_pure ?_))
  refine wpAny_bind (wpAny_fieldsOf ho hd ?_)
  have hown : Builtin.Dict_items.ownsTuple "dict_keyiterator" = false := by decide
  simp only [hown, Bool.false_eq_true, if_false]
  show wpAny _ _ (if (Value.ref d == Value.none) = true then _ else _) _ _ s
  rw [if_neg (show ¬ ((Value.ref d == Value.none) = true) from Bool.false_ne_true)]
  refine wpAny_bind (wpAny_pure ?_)
  refine wpAny_bind (wpAny_dictEntries hod hdd ?_)
  rw [if_neg (by rw [hsz]; simp)]
  refine wpAny_bind (wpAny_pure ?_)
  refine wpAny_bind (wpAny_dictEpoch hod hdd ?_)
  rw [if_neg (by simp)]
  refine wpAny_pure ?_
  obtain ⟨hlt', hen⟩ := Array.getElem?_eq_some_iff.mp hx
  simp only [show ¬ ((i : Int) < 0) from by omega, if_false, Int.toNat_natCast, Array.getElem?_eq_getElem hlt']
  refine wpAny_bind ?_
  first | refine wpAny_bind (wpAny_typeNameOfWhole_keyiter hit.typeIs (wpAny_pure ?_)) | refine wpAny_bind (wpAny_typeNameOf_keyiter hit.typeIs (wpAny_pure ?_))
  refine wpAny_bind (wpAny_isOneOf_keyiter hit.typeIs ?_)
  show wpAny _ _ (setField (.ref it) 1 (rawInt ((i : Int) + 1)) >>= _) _ _ s
  refine wpAny_bind (wpAny_setField ho hd (by simp) ?_)
  have hit' : (s.heap.update it (Obj.mapFields (·.setIfInBounds 1 (rawInt ((i : Int) + 1))))).IsKeyIter it d (i + 1) n ep :=
    ⟨_, Heap.get?_update_self _ ho (Obj.isFreed_of_fields (Obj.data_mapFields hd _)), (Obj.cls_mapFields ..).trans hc, by rw [Obj.data_mapFields hd]; simp [rawInt]⟩
  refine wpAny_bind (wpAny_holding ?_)
  refine wpAny_bind (wpAny_isOneOf_keyiter (s := { s with heap := s.heap.update it (Obj.mapFields (·.setIfInBounds 1 (rawInt ((i : Int) + 1)))) }) hit'.typeIs ?_)
  show wpAny _ _ (pure es[i].key) _ _ _
  rw [hen]
  exact wpAny_pure (wpAny_pure ⟨_, rfl, wpAny_pure (hQ _ hit' (Heap.SameBut.update ..))⟩)
theorem next_key_end {it d : Addr} {i n ep : Nat} {od : Obj} {es : Array DictEntry} {Q : Option Value → Shared → Prop} (hh : A.handled = none) (hit : s.heap.IsKeyIter it d i n ep) (hod : s.heap.get? d = some od) (hdd : od.data = .dict es ep)
    (hsz : es.size = n) (hge : n ≤ i) (hQ : ∀ h', Heap.ExtBut it s.heap h' → Q none { s with heap := h' }) : wpAny (model prog w) A (pyNext (.ref it)) Q E s := by
  obtain ⟨o, ho, hc, hd⟩ := id hit
  unfold pyNext
  refine wpAny_bind (wpAny_attempt (wpAny_callSpecial?_slot (name := Str.ofString "__next__") hit.typeIs F.slot_dict_keyiterator_next
    (wpAny_call_entry F.slot_dict_keyiterator_next hit.typeIs F.entry_dict_keyiterator_next ?_ (F.args_dict_keyiterator_next_1 _))))
  refine wpAny_bind (wpAny_pure ?_)
  refine wpAny_bind ?_
  refine wpAny_bind ?_
  first | refine wpAny_bind (wpAny_typeNameOfWhole_keyiter hit.typeIs (wpAny_pure ?_)) | refine wpAny_bind (wpAny_typeNameOf_keyiter hit.typeIs (wpAny_pure ?_))
  refine wpAny_bind (wpAny_fieldsOf ho hd ?_)
  have hown : Builtin.Dict_items.ownsTuple "dict_keyiterator" = false := by decide
  simp only [hown, Bool.false_eq_true, if_false]
  show wpAny _ _ (if (Value.ref d == Value.none) = true then _ else _) _ _ s
  rw [if_neg (show ¬ ((Value.ref d == Value.none) = true) from Bool.false_ne_true)]
  refine wpAny_bind (wpAny_pure ?_)
  refine wpAny_bind (wpAny_dictEntries hod hdd ?_)
  rw [if_neg (by rw [hsz]; simp)]
  refine wpAny_bind (wpAny_pure ?_)
  refine wpAny_bind (wpAny_dictEpoch hod hdd ?_)
  rw [if_neg (by simp)]
  refine wpAny_pure ?_
  have hge' : es.size ≤ i := by rw [hsz]; exact hge
  simp only [show ¬ ((i : Int) < 0) from by omega, if_false, Int.toNat_natCast, Array.getElem?_eq_none hge']
  refine wpAny_bind ?_
  first | refine wpAny_bind (wpAny_typeNameOfWhole_keyiter hit.typeIs (wpAny_pure ?_)) | refine wpAny_bind (wpAny_typeNameOf_keyiter hit.typeIs (wpAny_pure ?_))
  show wpAny _ _ (setField (.ref it) 0 .none >>= _) _ _ s
  refine wpAny_bind (wpAny_setField ho hd (by simp) ?_)
  show wpAny _ _ (newExc (.type "StopIteration") [] >>= _) _ _ _
  refine wpAny_bind ?_
  simp only [newExc, newTuple]
  refine wpAny_bind (wpAny_newObj_type ?_ (by size_fits))
  refine wpAny_bind (m := firstArgMember _ _) (wpAny_of_eq (a := Value.none) (by first | rfl | (simp only [firstArgMember]; rfl)) ?_)
  refine wpAny_newObj_type ?_ (by size_fits)
  simp only [raiseNew]
  refine wpAny_bind (wpAny_handled ?_)
  rw [show A.in1.handled = none from hh]
  refine wpAny_bind (wpAny_pure (wpAny_throw ?_))
  refine wpAny_bind (wpAny_isInstance (T := "StopIteration") (b := true) ⟨_, Heap.get?_push_size _ rfl, rfl⟩ isSubtype_stop ?_)
  exact wpAny_pure (hQ _ (((Heap.SameBut.update ..).extBut.push _).push _))
end

/-! ### a locked dict -/
theorem kv_get {κ : Type} {kvs : List (κ × V)} {vs : List (κ × Value)} (h : KV kvs vs) : ∀ {i : Nat} {k : κ} {v : V}, kvs[i]? = some (k, v) → ∃ u, vs[i]? = some (k, u) ∧ RelV v u := by
  unfold KV at h
  induction h with
  | nil => intro i k v e; simp at e
  | @cons a b l₁ l₂ r t ih =>
    intro i k v e
    cases i with
    | zero =>
      simp only [List.getElem?_cons_zero, Option.some.injEq] at e
      subst e
      refine ⟨b.2, ?_, r.2⟩
      simp only [List.getElem?_cons_zero]
      exact congrArg some (Prod.ext r.1.symm rfl)
    | succ j =>
      simp only [List.getElem?_cons_succ] at e ⊢
      exact ih e
theorem paired_get {α β : Type} {G : α → β → Prop} {l₁ : List α} {l₂ : List β} (h : Paired G l₁ l₂) : ∀ {i : Nat} {a : α}, l₁[i]? = some a → ∃ b, l₂[i]? = some b ∧ G a b := by
  induction h with
  | nil => intro i a e; simp at e
  | @cons a b l₁ l₂ r t ih =>
    intro i a' e
    cases i with
    | zero =>
      simp only [List.getElem?_cons_zero, Option.some.injEq] at e
      subst e
      exact ⟨b, rfl, r⟩
    | succ j =>
      simp only [List.getElem?_cons_succ] at e ⊢
      exact ih e
theorem relV_key {k : Key} {u : Value} (h : keyIs k u = true) : RelV (kV k) u := by
  rcases keyIs_shape h with ⟨i, t, rfl, rfl⟩ | ⟨x, t, rfl, rfl⟩
  · exact ⟨t, rfl⟩
  · exact ⟨t, rfl⟩
section
variable {X : Cx} {pins : List (Addr × Obj)} {σ : St} {H : Hp} {s : Shared} {d : Addr} {o : Obj}
theorem Inv.frzK {kvs : List (Key × V)} (I : Inv X pins σ H s) (h : H d = some (.frz o (.dK kvs))) :
    (d == sysModules) = false ∧ s.heap.get? d = some o ∧ o.ExactDict ∧ ∃ (es : Array DictEntry) (ep : Nat) (vs : List (Key × Value)), o.data = .dict es ep ∧ es.size = kvs.length ∧ KV kvs vs ∧ s.heap.DictAt (mixKind X.prog X.w) d vs ep := by
  obtain ⟨hd, z, hs, vs, kv, o', es, ep, ho, hx, hdt, r⟩ := I.hok d _ h
  rw [hd] at ho
  cases ho
  refine ⟨hs, hd, hx, es, ep, vs, hdt, ?_, kv, o, es, hd, hx, hdt, r⟩
  have l1 := r.2.1.length
  have l2 : kvs.length = vs.length := Paired.length kv
  rw [Array.length_toList] at l1
  omega
/-- the same for tuple keys -/
theorem Inv.frzT {kvs : List (List Key × V)} (I : Inv X pins σ H s) (h : H d = some (.frz o (.dT kvs))) :
    (d == sysModules) = false ∧ s.heap.get? d = some o ∧ o.ExactDict ∧ ∃ (es : Array DictEntry) (ep : Nat), o.data = .dict es ep ∧ es.size = kvs.length ∧
      ∀ (i : Nat) (k : List Key) (v : V), kvs[i]? = some (k, v) → ∃ (en : DictEntry) (q : Addr), es[i]? = some en ∧ en.key = .ref q ∧ H q = some (.tup (k.map kV)) := by
  obtain ⟨hd, z, hs, xs, pr, o', es, ep, ho, hx, hdt, he, _⟩ := I.hok d _ h
  rw [hd] at ho
  cases ho
  refine ⟨hs, hd, hx, es, ep, hdt, ?_, fun i k v e => ?_⟩
  · have l1 : es.size = xs.length := size_of_entries he
    have l2 : kvs.length = xs.length := Paired.length pr
    omega
  · obtain ⟨b, hb, e1, e2, _⟩ := paired_get pr e
    have q := entry_at he i
    rw [hb] at q
    exact ⟨_, b.2.1, q, rfl, e2⟩
end

/-- the keys of the locked dict at d, in their order -/
def Itk (d : Addr) (o : Obj) (kvs : List (Key × V)) : It :=
  ⟨fun i H => H d = some (.frz o (.dK kvs)) ∧ i < kvs.length, fun i H x H' => H' = H ∧ ∃ k v, kvs[i]? = some (k, v) ∧ x = kV k, fun i H => H d = some (.frz o (.dK kvs)) ∧ kvs.length ≤ i⟩
/-- .. of tuple keys: the key's own tuple -/
def Itkt (d : Addr) (o : Obj) (kvs : List (List Key × V)) : It :=
  ⟨fun i H => H d = some (.frz o (.dT kvs)) ∧ i < kvs.length, fun i H x H' => H' = H ∧ ∃ (k : List Key) (v : V) (q : Addr), kvs[i]? = some (k, v) ∧ x = .ref q ∧ H q = some (.tup (k.map kV)), fun i H => H d = some (.frz o (.dT kvs)) ∧ kvs.length ≤ i⟩
/-- the values -/
def Itd (d : Addr) (o : Obj) (kvs : List (Key × V)) : It :=
  ⟨fun i H => H d = some (.frz o (.dK kvs)) ∧ i < kvs.length, fun i H x H' => H' = H ∧ ∃ k, kvs[i]? = some (k, x), fun i H => H d = some (.frz o (.dK kvs)) ∧ kvs.length ≤ i⟩
/-- the pairs, each a new tuple -/
def Iti (d : Addr) (o : Obj) (kvs : List (Key × V)) : It :=
  ⟨fun i H => H d = some (.frz o (.dK kvs)) ∧ i < kvs.length, fun i H x H' => ∃ T k v, kvs[i]? = some (k, v) ∧ x = .ref T ∧ H T = none ∧ H' = upd H T (.tup [kV k, v]), fun i H => H d = some (.frz o (.dK kvs)) ∧ kvs.length ≤ i⟩
theorem dict_ep {o : Obj} {es es' : Array DictEntry} {ep ep' : Nat} (h : o.data = .dict es ep) (h' : o.data = .dict es' ep') : es' = es ∧ ep' = ep := by
  rw [h] at h'
  cases h'
  exact ⟨rfl, rfl⟩
section
variable {P : Program} {w : World} {K : PySem.W.Frag} {tg : Expr} {d : Addr} {o : Obj} {es : Array DictEntry} {ep : Nat}
theorem turn_keys {kvs : List (Key × V)} (it : Addr) (hod : o.data = .dict es ep) : Turn P w K tg (Itk d o kvs) [it] it (fun i h => h.IsKeyIter it d i kvs.length ep) where
  mem := by simp
  obj := fun i h st b hb => by
    have e : b = it := by simpa using hb
    subst e
    obtain ⟨oi, e, c, dd⟩ := st
    exact ⟨oi, e, fun v z => by rw [dd] at z; cases z⟩
  keep := fun i h h' st k => st.at fun oi e => k it (by simp) oi e
  item := by
    intro X hP hw hK hc i pins s σ H E I hf st hg
    subst hP hw hK
    obtain ⟨hd, hi⟩ := hg
    obtain ⟨f0, f1, f2, f3, f4, f5⟩ := hf it (by simp)
    obtain ⟨hs, hgd, hx, es', ep', vs, hdt, hsz, kv, hm⟩ := I.frzK hd
    obtain ⟨rfl, rfl⟩ := dict_ep hod hdt
    obtain ⟨⟨k, v⟩, hkv⟩ : ∃ p, kvs[i]? = some p := ⟨kvs[i], List.getElem?_eq_getElem hi⟩
    obtain ⟨u, hu, ru⟩ := kv_get kv hkv
    have hl : kvs.length = vs.length := Paired.length kv
    rw [hl] at st
    refine wpAny_pyNext_dict_item st hm hu fun key h' hkey st' sb => ?_
    have I1 : Inv X pins σ H { s with heap := h' } := I.turned (t' := s.toks) (fun b ob hb e => (sb.2 b hb).trans e) f0 f1 f3 f4 f5
    obtain ⟨oi, e, c, dd⟩ := id st'
    refine ⟨key, rfl, go_of (s := { s with heap := h' }) e c dd (by decide) ⟨kV k, H, I1, relV_key (show keyIs k key = true from hkey), ⟨rfl, k, v, hkv, rfl⟩, ?_, fun b hb => (hf b hb).1⟩⟩
    show h'.IsKeyIter it d (i + 1) kvs.length _
    rw [hl]
    exact st'
  done := by
    intro X hP hw hK hc i pins s σ H E I hf st hg
    subst hP hw hK
    obtain ⟨hd, hi⟩ := hg
    obtain ⟨f0, f1, f2, f3, f4, f5⟩ := hf it (by simp)
    obtain ⟨hs, hgd, hx, es', ep', vs, hdt, hsz, kv, hm⟩ := I.frzK hd
    obtain ⟨rfl, rfl⟩ := dict_ep hod hdt
    exact next_key_end (I.ok.hd hc) st hgd hdt hsz hi fun h' eb => ⟨rfl, I.turned (t' := s.toks) (fun b ob hb e => eb b ob hb e) f0 f1 f3 f4 f5⟩
  self := fun A i s Q E st h => wpAny_pyIter_keyiter st h
theorem turn_keysT {kvs : List (List Key × V)} (it : Addr) (hod : o.data = .dict es ep) : Turn P w K tg (Itkt d o kvs) [it] it (fun i h => h.IsKeyIter it d i kvs.length ep) where
  mem := by simp
  obj := fun i h st b hb => by
    have e : b = it := by simpa using hb
    subst e
    obtain ⟨oi, e, c, dd⟩ := st
    exact ⟨oi, e, fun v z => by rw [dd] at z; cases z⟩
  keep := fun i h h' st k => st.at fun oi e => k it (by simp) oi e
  item := by
    intro X hP hw hK hc i pins s σ H E I hf st hg
    subst hP hw hK
    obtain ⟨hd, hi⟩ := hg
    obtain ⟨f0, f1, f2, f3, f4, f5⟩ := hf it (by simp)
    obtain ⟨hs, hgd, hx, es', ep', hdt, hsz, ent⟩ := I.frzT hd
    obtain ⟨rfl, rfl⟩ := dict_ep hod hdt
    obtain ⟨⟨k, v⟩, hkv⟩ : ∃ p, kvs[i]? = some p := ⟨kvs[i], List.getElem?_eq_getElem hi⟩
    obtain ⟨en, q, hen, hkey, hq⟩ := ent i k v hkv
    refine next_key_item st hgd hdt hsz hen fun h' st' sb => ?_
    have I1 : Inv X pins σ H { s with heap := h' } := I.turned (t' := s.toks) (fun b ob hb e => (sb.2 b hb).trans e) f0 f1 f3 f4 f5
    obtain ⟨oi, e, c, dd⟩ := id st'
    exact ⟨en.key, rfl, go_of (s := { s with heap := h' }) e c dd (by decide) ⟨.ref q, H, I1, hkey, ⟨rfl, k, v, q, hkv, rfl, hq⟩, st', fun b hb => (hf b hb).1⟩⟩
  done := by
    intro X hP hw hK hc i pins s σ H E I hf st hg
    subst hP hw hK
    obtain ⟨hd, hi⟩ := hg
    obtain ⟨f0, f1, f2, f3, f4, f5⟩ := hf it (by simp)
    obtain ⟨hs, hgd, hx, es', ep', hdt, hsz, ent⟩ := I.frzT hd
    obtain ⟨rfl, rfl⟩ := dict_ep hod hdt
    exact next_key_end (I.ok.hd hc) st hgd hdt hsz hi fun h' eb => ⟨rfl, I.turned (t' := s.toks) (fun b ob hb e => eb b ob hb e) f0 f1 f3 f4 f5⟩
  self := fun A i s Q E st h => by
    refine wpAny_pyIter_slot st.typeIs F.slot_dict_keyiterator_iter (wpAny_call_entry F.slot_dict_keyiterator_iter st.typeIs F.entry_dict_keyiterator_iter ?_ (F.args_dict_keyiterator_iter_1 _))
    show wpAny _ _ (ret (.ref it)) _ _ s
    exact wpAny_pure ⟨_, rfl, "dict_keyiterator", _, st.typeIs, F.slot_dict_keyiterator_next.lookup, h⟩
theorem turn_vals {kvs : List (Key × V)} (it : Addr) (hod : o.data = .dict es ep) : Turn P w K tg (Itd d o kvs) [it] it (fun i h => h.IsValIter it d i kvs.length ep) where
  mem := by simp
  obj := fun i h st b hb => by
    have e : b = it := by simpa using hb
    subst e
    obtain ⟨oi, e, c, dd⟩ := st
    exact ⟨oi, e, fun v z => by rw [dd] at z; cases z⟩
  keep := fun i h h' st k => st.at fun oi e => k it (by simp) oi e
  item := by
    intro X hP hw hK hc i pins s σ H E I hf st hg
    subst hP hw hK
    obtain ⟨hd, hi⟩ := hg
    obtain ⟨f0, f1, f2, f3, f4, f5⟩ := hf it (by simp)
    obtain ⟨hs, hgd, hx, es', ep', vs, hdt, hsz, kv, hm⟩ := I.frzK hd
    obtain ⟨rfl, rfl⟩ := dict_ep hod hdt
    obtain ⟨⟨k, v⟩, hkv⟩ : ∃ p, kvs[i]? = some p := ⟨kvs[i], List.getElem?_eq_getElem hi⟩
    obtain ⟨u, hu, ru⟩ := kv_get kv hkv
    have hl : kvs.length = vs.length := Paired.length kv
    rw [hl] at st
    refine wpAny_pyNext_values_item st hm hu fun h' st' sb => ?_
    have I1 : Inv X pins σ H { s with heap := h' } := I.turned (t' := s.toks) (fun b ob hb e => (sb.2 b hb).trans e) f0 f1 f3 f4 f5
    obtain ⟨oi, e, c, dd⟩ := id st'
    refine ⟨u, rfl, go_of (s := { s with heap := h' }) e c dd (by decide) ⟨v, H, I1, ru, ⟨rfl, k, hkv⟩, ?_, fun b hb => (hf b hb).1⟩⟩
    show h'.IsValIter it d (i + 1) kvs.length _
    rw [hl]
    exact st'
  done := by
    intro X hP hw hK hc i pins s σ H E I hf st hg
    subst hP hw hK
    obtain ⟨hd, hi⟩ := hg
    obtain ⟨f0, f1, f2, f3, f4, f5⟩ := hf it (by simp)
    obtain ⟨hs, hgd, hx, es', ep', vs, hdt, hsz, kv, hm⟩ := I.frzK hd
    obtain ⟨rfl, rfl⟩ := dict_ep hod hdt
    have hl : kvs.length = vs.length := Paired.length kv
    rw [hl] at st
    exact wpAny_pyNext_values_end (I.ok.hd hc) st hm (List.getElem?_eq_none (by omega)) fun h' eb => ⟨rfl, I.turned (t' := s.toks) (fun b ob hb e => eb b ob hb e) f0 f1 f3 f4 f5⟩
  self := fun A i s Q E st h => wpAny_pyIter_valiter st h
theorem turn_items {kvs : List (Key × V)} {elts : List Expr} {kk : Nat} {tpos : Pos} (it : Addr) (hod : o.data = .dict es ep) :
    Turn P w K (.Tuple elts kk tpos) (Iti d o kvs) [it] it (fun i h => ∃ ok ov, IsItemIter h it d i kvs.length ep ok ov) where
  mem := by simp
  obj := fun i h st b hb => by
    have e : b = it := by simpa using hb
    subst e
    obtain ⟨ok, ov, e⟩ := st
    exact ⟨_, e, fun v z => nomatch z⟩
  keep := fun i h h' st k => let ⟨ok, ov, e⟩ := st; ⟨ok, ov, k it (by simp) _ e⟩
  item := by
    intro X hP hw hK hc i pins s σ H E I hf st hg
    subst hP hw hK
    obtain ⟨hd, hi⟩ := hg
    obtain ⟨hs, hgd, hx, es', ep', vs, hdt, hsz, kv, hm⟩ := I.frzK hd
    obtain ⟨rfl, rfl⟩ := dict_ep hod hdt
    obtain ⟨⟨k, v⟩, hkv⟩ : ∃ p, kvs[i]? = some p := ⟨kvs[i], List.getElem?_eq_getElem hi⟩
    obtain ⟨u, hu, ru⟩ := kv_get kv hkv
    have hl : kvs.length = vs.length := Paired.length kv
    obtain ⟨ok, ov, he⟩ := st
    rw [hl] at he
    have hlt : it < s.heap.objs.size := Heap.lt_size he
    refine wpAny_pyNext_items_item he hm hu fun key h' hkey ho hT hz hk => ?_
    refine ⟨_, rfl, wpAny_letOwnedTupleGo_items (s := { s with heap := h' }) ho fun h'' he' sb => ?_⟩
    have hT2 : h''.get? s.heap.objs.size = some { cls := .type "tuple", data := .seq #[key, u] } := (sb.2 _ (Nat.ne_of_gt hlt)).trans hT
    have new : ObjOk X.prog X.w (upd H s.heap.objs.size (.tup [kV k, v])) h'' s.heap.objs.size (.tup [kV k, v]) :=
      ⟨by show 2 ≤ sizeLine; decide, [key, u], .cons (relV_key (show keyIs k key = true from hkey)) (.cons ru .nil), ⟨_, hT2, rfl, _, rfl⟩⟩
    have I1 : Inv X pins σ (upd H s.heap.objs.size (.tup [kV k, v])) { s with heap := h'' } :=
      I.turnedNew (t' := s.toks) (ch := [it]) (fun b ob hb e => (sb.2 b (by simpa using hb)).trans (hk b ob (by simpa using hb) e)) hf (Nat.le_refl _) new
    refine ⟨.ref s.heap.objs.size, _, I1, rfl, ⟨_, k, v, hkv, rfl, I.hok.fresh (Nat.le_refl _), rfl⟩, ⟨key, u, ?_⟩, fun b hb => ?_⟩
    · rw [hl]; exact he'
    · have e : b = it := by simpa using hb
      rw [e, upd_ne (Nat.ne_of_lt hlt)]
      exact (hf it (by simp)).1
  done := by
    intro X hP hw hK hc i pins s σ H E I hf st hg
    subst hP hw hK
    obtain ⟨hd, hi⟩ := hg
    obtain ⟨f0, f1, f2, f3, f4, f5⟩ := hf it (by simp)
    obtain ⟨hs, hgd, hx, es', ep', vs, hdt, hsz, kv, hm⟩ := I.frzK hd
    obtain ⟨rfl, rfl⟩ := dict_ep hod hdt
    have hl : kvs.length = vs.length := Paired.length kv
    obtain ⟨ok, ov, he⟩ := st
    rw [hl] at he
    exact wpAny_pyNext_items_end (I.ok.hd hc) he hm (List.getElem?_eq_none (by omega)) fun h' eb => ⟨rfl, I.turned (t' := s.toks) (fun b ob hb e => eb b ob hb e) f0 f1 f3 f4 f5⟩
  self := fun A i s Q E st h => let ⟨_, _, e⟩ := st; PySem.W.kcp_self e h
end

/-! ### for k in d, d.keys(), d.values(), d.items() -/
/-- the dict is locked (tLock, or by the caller) -/
def iKeys (td : TE) : TI := fun σ H R => td σ H fun x H1 => ∃ d o, x = .ref d ∧ ((∃ kvs, H1 d = some (.frz o (.dK kvs)) ∧ R (Itk d o kvs) H1) ∨ ∃ kvs, H1 d = some (.frz o (.dT kvs)) ∧ R (Itkt d o kvs) H1)
def iVals (td : TE) : TI := fun σ H R => td σ H fun x H1 => ∃ d o kvs, x = .ref d ∧ H1 d = some (.frz o (.dK kvs)) ∧ R (Itd d o kvs) H1
def iItems (td : TE) : TI := fun σ H R => td σ H fun x H1 => ∃ d o kvs, x = .ref d ∧ H1 d = some (.frz o (.dK kvs)) ∧ R (Iti d o kvs) H1
def iKeysM (td : TE) : TI := fun σ H R => td σ H fun x H1 => ∃ d o kvs, x = .ref d ∧ H1 d = some (.frz o (.dK kvs)) ∧ R (Itk d o kvs) H1
section
variable {X : Cx} {tg e : Expr} {td : TE} {apos cpos : Pos}
theorem pi_keys (he : PE X e td) : PI X tg e (iKeys td) := by
  intro pins s σ H R I h
  refine thn (he pins s σ H _ I h) fun u s1 ⟨x, H1, I1, rx, d, o, ex, q⟩ => ?_
  subst ex
  obtain rfl : u = Value.ref d := rx
  rcases q with ⟨kvs, hd, q⟩ | ⟨kvs, hd, q⟩
  · obtain ⟨hs, hgd, hx, es, ep, vs, hdt, hsz, kv, hm⟩ := I1.frzK hd
    refine iter_keys hs hgd hx hdt (pi_one (tk := s1.toks) I1 _ (turn_keys _ hdt) ⟨_, Heap.get?_push_size _ rfl, rfl, ?_⟩ q)
    rw [hsz] <;> rfl
  · obtain ⟨hs, hgd, hx, es, ep, hdt, hsz, ent⟩ := I1.frzT hd
    refine iter_keys hs hgd hx hdt (pi_one (tk := s1.toks) I1 _ (turn_keysT _ hdt) ⟨_, Heap.get?_push_size _ rfl, rfl, ?_⟩ q)
    rw [hsz] <;> rfl
theorem pi_values (he : PE X e td) (hbase : attributeBase e "values" X.env (eval e X.env) = eval e X.env := by rfl) (hline : (apos.endLine == cpos.line) = true := by rfl) : PI X tg (.Call (.Attribute e "values" apos) [] [] cpos) (iVals td) := by
  intro pins s σ H R I h
  refine wpAny_Call_method (T := "dict") (id := "dict.values") hbase rfl hline F.plainAttrs_dict F.slot_dict_values F.type_dict_values (thn (he pins s σ H _ I h) fun u s1 ⟨x, H1, I1, rx, d, o, kvs, ex, hd, q⟩ => ?_)
  subst ex
  obtain rfl : u = Value.ref d := rx
  obtain ⟨hs, hgd, hx, es, ep, vs, hdt, hsz, kv, hm⟩ := I1.frzK hd
  have hl : kvs.length = vs.length := Paired.length kv
  refine ⟨hm.dictOf.typeIs, hm.dictOf.mapOf.noDict, ?_⟩
  have I2 : Inv X pins σ H1 { s1 with heap := s1.heap.push { cls := .type "dict_values", data := .fields #[.ref d] } } := I1.kept (t' := s1.toks) fun b ob q => Heap.get?_push_of_some _ q
  have fin : wpAny (model X.prog X.w) X.A (pyIter (.ref s1.heap.objs.size)) (PIE X pins σ tg R) X.xe { s1 with heap := s1.heap.push { cls := .type "dict_values", data := .fields #[.ref d] } } := by
    refine wpAny_pyIter_values (d := d) (knd := mixKind X.prog X.w) ⟨_, Heap.get?_push_size _ rfl, rfl, rfl⟩ (hm.push _) (pi_one (tk := s1.toks) I2 _ (turn_vals _ hdt) ⟨_, Heap.get?_push_size _ rfl, rfl, ?_⟩ q)
    rw [hl] <;> rfl
  show wpAny _ _ (callWith cpos (.builtin "dict.values") [.ref d] [] []) _ X.xe s1
  exact method_meetsIn F.slot_dict_values F.entry_dict_values rfl (PySem.evalArgs_none ⟨rfl, hm.dictOf.typeIs, F.args_dict_values_1 _, _, meets_dict_values (mixKind X.prog X.w) d hs, ⟨vs, hm.dictOf⟩, fin⟩)
theorem pi_items {elts : List Expr} {kk : Nat} {tpos : Pos} (he : PE X e td) (hbase : attributeBase e "items" X.env (eval e X.env) = eval e X.env := by rfl) (hline : (apos.endLine == cpos.line) = true := by rfl) :
    PI X (.Tuple elts kk tpos) (.Call (.Attribute e "items" apos) [] [] cpos) (iItems td) := by
  intro pins s σ H R I h
  refine wpAny_Call_method (T := "dict") (id := "dict.items") hbase rfl hline F.plainAttrs_dict F.slot_dict_items F.type_dict_items (thn (he pins s σ H _ I h) fun u s1 ⟨x, H1, I1, rx, d, o, kvs, ex, hd, q⟩ => ?_)
  subst ex
  obtain rfl : u = Value.ref d := rx
  obtain ⟨hs, hgd, hx, es, ep, vs, hdt, hsz, kv, hm⟩ := I1.frzK hd
  have hl : kvs.length = vs.length := Paired.length kv
  refine ⟨hm.dictOf.typeIs, hm.dictOf.mapOf.noDict, ?_⟩
  have I2 : Inv X pins σ H1 { s1 with heap := s1.heap.push { cls := .type "dict_items", data := .fields #[.ref d] } } := I1.kept (t' := s1.toks) fun b ob q => Heap.get?_push_of_some _ q
  have fin : wpAny (model X.prog X.w) X.A (pyIter (.ref s1.heap.objs.size)) (PIE X pins σ (.Tuple elts kk tpos) R) X.xe { s1 with heap := s1.heap.push { cls := .type "dict_items", data := .fields #[.ref d] } } := by
    refine wpAny_pyIter_items (d := d) (knd := mixKind X.prog X.w) ⟨_, Heap.get?_push_size _ rfl, rfl, rfl⟩ (hm.push _) (pi_one (tk := s1.toks) I2 _ (turn_items _ hdt) ⟨.none, .none, ?_⟩ q)
    rw [hl]
    exact Heap.get?_push_size _ rfl
  show wpAny _ _ (callWith cpos (.builtin "dict.items") [.ref d] [] []) _ X.xe s1
  exact method_meetsIn F.slot_dict_items F.entry_dict_items rfl (PySem.evalArgs_none ⟨rfl, hm.dictOf.typeIs, F.args_dict_items_1 _, _, meets_dict_items (mixKind X.prog X.w) d hs, ⟨vs, hm.dictOf⟩, fin⟩)
theorem pi_keysM (he : PE X e td) (hbase : attributeBase e "keys" X.env (eval e X.env) = eval e X.env := by rfl) (hline : (apos.endLine == cpos.line) = true := by rfl) : PI X tg (.Call (.Attribute e "keys" apos) [] [] cpos) (iKeysM td) := by
  intro pins s σ H R I h
  refine wpAny_Call_method (T := "dict") (id := "dict.keys") hbase rfl hline F.plainAttrs_dict F.slot_dict_keys F.type_dict_keys (thn (he pins s σ H _ I h) fun u s1 ⟨x, H1, I1, rx, d, o, kvs, ex, hd, q⟩ => ?_)
  subst ex
  obtain rfl : u = Value.ref d := rx
  obtain ⟨hs, hgd, hx, es, ep, vs, hdt, hsz, kv, hm⟩ := I1.frzK hd
  have hl : kvs.length = vs.length := Paired.length kv
  refine ⟨hm.dictOf.typeIs, hm.dictOf.mapOf.noDict, ?_⟩
  have I2 : Inv X pins σ H1 { s1 with heap := s1.heap.push { cls := .type "dict_keys", data := .fields #[.ref d] } } := I1.kept (t' := s1.toks) fun b ob q => Heap.get?_push_of_some _ q
  have fin : wpAny (model X.prog X.w) X.A (pyIter (.ref s1.heap.objs.size)) (PIE X pins σ tg R) X.xe { s1 with heap := s1.heap.push { cls := .type "dict_keys", data := .fields #[.ref d] } } := by
    refine PySem.W.kdl_pyIter_keys (d := d) (knd := mixKind X.prog X.w) ⟨_, Heap.get?_push_size _ rfl, rfl, rfl⟩ (hm.push _) (pi_one (tk := s1.toks) I2 _ (turn_keys _ hdt) ⟨_, Heap.get?_push_size _ rfl, rfl, ?_⟩ q)
    rw [hl] <;> rfl
  show wpAny _ _ (callWith cpos (.builtin "dict.keys") [.ref d] [] []) _ X.xe s1
  exact method_meetsIn F.slot_dict_keys F.entry_dict_keys rfl (PySem.evalArgs_none ⟨rfl, hm.dictOf.typeIs, F.args_dict_keys_1 _, _, PySem.W.kdl_meets_keys (mixKind X.prog X.w) d hs, ⟨vs, hm.dictOf⟩, fin⟩)
end

/-! ### enumerate(list) -/
/-- the list at a as it stands at each turn, each item in a new pair -/
def Ite (K : PySem.W.Frag) (a : Addr) : It :=
  ⟨fun i H => ∃ (xs : List V) (x : V), SqL K H a xs ∧ xs[i]? = some x, fun i H v H' => ∃ T x, v = .ref T ∧ H T = none ∧ H' = upd H T (.tup [.int (i : Nat), x]) ∧ ∀ xs, SqL K H a xs → xs[i]? = some x, fun i H => ∃ xs : List V, SqL K H a xs ∧ xs.length ≤ i⟩
theorem turn_enum {P : Program} {w : World} {K : PySem.W.Frag} {elts : List Expr} {kk : Nat} {tpos : Pos} (a e it : Addr) :
    Turn P w K (.Tuple elts kk tpos) (Ite K a) [e, it] e (fun i h => (∃ old, IsEnum h e it ((i : Nat) : Int) old) ∧ h.IsListIter it a i ∧ e ≠ it) where
  mem := by simp
  obj := fun i h st b hb => by
    obtain ⟨⟨old, he⟩, ⟨o, ho, hc, hd⟩, _⟩ := st
    have e' : b = e ∨ b = it := by simpa using hb
    rcases e' with z | z
    · rw [z]; exact ⟨_, he, fun v q => nomatch q⟩
    · rw [z]; exact ⟨o, ho, fun v q => by rw [hd] at q; cases q⟩
  keep := fun i h h' st k => let ⟨⟨old, he⟩, hi, hne⟩ := st; ⟨⟨old, k e (by simp) _ he⟩, hi.at fun o q => k it (by simp) o q, hne⟩
  item := by
    intro X hP hw hK hc i pins s σ H E I hf st hg
    subst hP hw hK
    obtain ⟨⟨old, he⟩, hit, hne⟩ := st
    obtain ⟨xs, x, hq, hx⟩ := hg
    obtain ⟨its, rv, p, hz⟩ := I.list hq
    obtain ⟨u, hu, ru⟩ := rv.get hx
    have hel : e < s.heap.objs.size := Heap.lt_size he
    have hil : it < s.heap.objs.size := by obtain ⟨_, q, _⟩ := hit; exact Heap.lt_size q
    refine wpAny_pyNext_enum_item he hit p.isList (x := u) (by simpa using hu) hne fun h' ho hit' hT hsz hk => ?_
    refine ⟨_, rfl, wpAny_letOwnedTupleGo_enum (s := { s with heap := h', toks := s.toks + 1 }) ho fun h'' he' sb => ?_⟩
    have hT2 : h''.get? s.heap.objs.size = some { cls := .type "tuple", data := .seq #[.int i s.toks, u] } := (sb.2 _ (Nat.ne_of_gt hel)).trans hT
    have new : ObjOk X.prog X.w (upd H s.heap.objs.size (.tup [.int (i : Nat), x])) h'' s.heap.objs.size (.tup [.int (i : Nat), x]) :=
      ⟨by show 2 ≤ sizeLine; decide, [.int i s.toks, u], .cons ⟨_, rfl⟩ (.cons ru .nil), ⟨_, hT2, rfl, _, rfl⟩⟩
    have I1 : Inv X pins σ (upd H s.heap.objs.size (.tup [.int (i : Nat), x])) { s with heap := h'', toks := s.toks + 1 } :=
      I.turnedNew (ch := [e, it]) (fun b ob hb q => (sb.2 b (fun z => hb (by simp [z]))).trans (hk b ob (fun z => hb (by simp [z])) (fun z => hb (by simp [z])) q)) hf (Nat.le_refl _) new
    refine ⟨.ref s.heap.objs.size, _, I1, rfl, ⟨_, x, rfl, I.hok.fresh (Nat.le_refl _), rfl, fun ys hy => by rw [I.list_inj hy hq]; exact hx⟩, ⟨⟨u, ?_⟩, hit'.at fun o q => (sb.2 it (Ne.symm hne)).trans q, hne⟩, fun b hb => ?_⟩
    · have e1 : ((i + 1 : Nat) : Int) = (i : Int) + 1 := by omega
      rw [e1]; exact he'
    · have hb' : b < s.heap.objs.size := by
        have e' : b = e ∨ b = it := by simpa using hb
        rcases e' with z | z
        · rw [z]; exact hel
        · rw [z]; exact hil
      rw [upd_ne (Nat.ne_of_lt hb')]
      exact (hf b hb).1
  done := by
    intro X hP hw hK hc i pins s σ H E I hf st hg
    subst hP hw hK
    obtain ⟨⟨old, he⟩, hit, hne⟩ := st
    obtain ⟨xs, hq, hx⟩ := hg
    obtain ⟨its, rv, p, hz⟩ := I.list hq
    obtain ⟨f0, f1, f2, f3, f4, f5⟩ := hf it (by simp)
    have hl := rv.length
    exact wpAny_pyNext_enum_end (I.ok.hd hc) he hit p.isList (by simp; omega) fun h' eb => ⟨rfl, I.turned (t' := s.toks) (fun b o hb q => eb b o hb q) f0 f1 f3 f4 f5⟩
  self := fun A i s Q E st h => let ⟨⟨_, he⟩, _⟩ := st; wpAny_pyIter_enum he h
def iEnum (K : PySem.W.Frag) (ta : TA) : TI := fun σ H R => ta σ H fun vs H1 => ∃ a xs, vs = [.ref a] ∧ SqL K H1 a xs ∧ R (Ite K a) H1
theorem pi_enum {X : Cx} {e : Expr} {ta : TA} {p pos tpos : Pos} {elts : List Expr} {kk : Nat} (hg : Gl X "enumerate") (hm : X.mg "enumerate" = none) (ha : PA X [e] ta) (hs : starEach [e] X.env = [(false, eval e X.env)] := by rfl) :
    PI X (.Tuple elts kk tpos) (.Call (.Name "enumerate" p) [e] [] pos) (iEnum X.K ta) := by
  intro pins s σ H R I h
  refine Call_ (ld_blt I hg hm boot_enumerate (PyProof.Rows.callWith_type1 (thn (ha pos pins s σ H _ I h) fun us s1 ⟨vs, H1, I1, r1, q1⟩ => ?_) hs rfl))
  obtain ⟨a, xs, ex, hq, q⟩ := q1
  subst ex
  cases r1 with
  | cons r rr =>
    cases rr
    cases r
    obtain ⟨its, rv, p', hz⟩ := I1.list hq
    refine call_enumerate_list p'.isList fun h' he hit hsz hk => wpAny_pyIter_enum he ?_
    have I2 : Inv X pins σ H1 { s1 with heap := h' } := I1.kept (t' := s1.toks) hk
    refine ⟨s1.heap.objs.size + 1, [s1.heap.objs.size + 1, s1.heap.objs.size], _, _, H1, rfl, I2, turn_enum a (s1.heap.objs.size + 1) s1.heap.objs.size, ⟨⟨.none, he⟩, hit, Nat.succ_ne_self _⟩, fun b hb => ?_, q⟩
    have e' : b = s1.heap.objs.size + 1 ∨ b = s1.heap.objs.size := by simpa using hb
    have hle : s1.heap.objs.size ≤ b := by
      rcases e' with z | z
      · rw [z]; exact Nat.le_add_right _ _
      · rw [z]; exact Nat.le_refl _
    exact I1.fpOk hle (I1.hok.fresh hle)
/-! ### zip(list, list) -/
theorem boot_zip5 : bootBuiltins "zip" = some (.type "zip") := by decide +kernel
/-- the lists at a and b as they stand at each turn, the items in new pairs -/
def Itz (K : PySem.W.Frag) (a b : Addr) : It :=
  ⟨fun i H => ∃ (xs ys : List V) (x y : V), SqL K H a xs ∧ SqL K H b ys ∧ xs[i]? = some x ∧ ys[i]? = some y,
    fun i H v H' => ∃ T x y, v = .ref T ∧ H T = none ∧ H' = upd H T (.tup [x, y]) ∧ (∀ xs, SqL K H a xs → xs[i]? = some x) ∧ ∀ ys, SqL K H b ys → ys[i]? = some y,
    fun i H => ∃ xs ys : List V, SqL K H a xs ∧ SqL K H b ys ∧ (xs.length ≤ i ∨ ys.length ≤ i)⟩
theorem turn_zip {P : Program} {w : World} {K : PySem.W.Frag} {elts : List Expr} {kk : Nat} {tpos : Pos} {a b z TI TO i1 i2 : Addr} (D : ZipApart z TI TO i1 i2 a b) :
    Turn P w K (.Tuple elts kk tpos) (Itz K a b) [z, TI, TO, i1, i2] z (fun i h => IsZip h z TI TO .none ∧ IsPair h TI (.ref i1) (.ref i2) ∧ (∃ x y, IsPair h TO x y) ∧ h.IsListIter i1 a i ∧ h.IsListIter i2 b i) where
  mem := by simp
  obj := fun i h st c hc => by
    obtain ⟨hz, hTI, ⟨x, y, hTO⟩, ⟨o1, e1, _, d1⟩, ⟨o2, e2, _, d2⟩⟩ := st
    have e' : c = z ∨ c = TI ∨ c = TO ∨ c = i1 ∨ c = i2 := by simpa using hc
    rcases e' with q | q | q | q | q
    · rw [q]; exact ⟨_, hz, fun v q => nomatch q⟩
    · rw [q]; exact ⟨_, hTI, fun v q => nomatch q⟩
    · rw [q]; exact ⟨_, hTO, fun v q => nomatch q⟩
    · rw [q]; exact ⟨o1, e1, fun v q => by rw [d1] at q; cases q⟩
    · rw [q]; exact ⟨o2, e2, fun v q => by rw [d2] at q; cases q⟩
  keep := fun i h h' st k => by
    obtain ⟨hz, hTI, ⟨x, y, hTO⟩, h1, h2⟩ := st
    exact ⟨k z (by simp) _ hz, k TI (by simp) _ hTI, ⟨x, y, k TO (by simp) _ hTO⟩, h1.at fun o q => k i1 (by simp) o q, h2.at fun o q => k i2 (by simp) o q⟩
  item := by
    intro X hP hw hK hc i pins s σ H E I hf st hg
    subst hP hw hK
    obtain ⟨hz, hTI, ⟨x0, y0, hTO⟩, h1, h2⟩ := st
    obtain ⟨xs, ys, x, y, hqx, hqy, hx, hy⟩ := hg
    obtain ⟨its, rv, p, _⟩ := I.list hqx
    obtain ⟨its2, rv2, p2, _⟩ := I.list hqy
    obtain ⟨u, hu, ru⟩ := rv.get hx
    obtain ⟨u2, hu2, ru2⟩ := rv2.get hy
    have hzl : z < s.heap.objs.size := Heap.lt_size hz
    refine wpAny_pyNext_zip_item D hz hTI hTO h1 h2 p.isList p2.isList (x := u) (y := u2) (by simpa using hu) (by simpa using hu2) fun h' z' TO' h1' h2' hT hsz hk => ?_
    refine ⟨_, rfl, wpAny_letOwnedTupleGo_zip (s := { s with heap := h' }) z' fun h'' z'' sb => ?_⟩
    have hT2 : h''.get? s.heap.objs.size = some { cls := .type "tuple", data := .seq #[u, u2] } := (sb.2 _ (Nat.ne_of_gt hzl)).trans hT
    have new : ObjOk X.prog X.w (upd H s.heap.objs.size (.tup [x, y])) h'' s.heap.objs.size (.tup [x, y]) :=
      ⟨by show 2 ≤ sizeLine; decide, [u, u2], .cons ru (.cons ru2 .nil), ⟨_, hT2, rfl, _, rfl⟩⟩
    have I1 : Inv X pins σ (upd H s.heap.objs.size (.tup [x, y])) { s with heap := h'' } :=
      I.turnedNew (t' := s.toks) (ch := [z, TI, TO, i1, i2]) (fun c o hb q => (sb.2 c (fun q' => hb (by simp [q']))).trans (hk c o (fun q' => hb (by simp [q'])) (fun q' => hb (by simp [q'])) (fun q' => hb (by simp [q'])) (fun q' => hb (by simp [q'])) q)) hf (Nat.le_refl _) new
    refine ⟨.ref s.heap.objs.size, _, I1, rfl, ⟨_, x, y, rfl, I.hok.fresh (Nat.le_refl _), rfl, fun l hl => by rw [I.list_inj hl hqx]; exact hx, fun l hl => by rw [I.list_inj hl hqy]; exact hy⟩, ⟨z'', ?_, ⟨u, u2, ?_⟩, ?_, ?_⟩, fun c hcm => ?_⟩
    · exact (sb.2 _ D.TIz).trans (hk _ _ D.TIz D.TITO D.TIi1 D.TIi2 hTI)
    · exact (sb.2 _ D.TOz).trans TO'
    · exact h1'.at fun o q => (sb.2 _ D.i1z).trans q
    · exact h2'.at fun o q => (sb.2 _ D.i2z).trans q
    · have hlt : c < s.heap.objs.size := by
        have e' : c = z ∨ c = TI ∨ c = TO ∨ c = i1 ∨ c = i2 := by simpa using hcm
        rcases e' with q | q | q | q | q
        · rw [q]; exact hzl
        · rw [q]; exact Heap.lt_size hTI
        · rw [q]; exact Heap.lt_size hTO
        · rw [q]; obtain ⟨_, e1, _⟩ := h1; exact Heap.lt_size e1
        · rw [q]; obtain ⟨_, e2, _⟩ := h2; exact Heap.lt_size e2
      rw [upd_ne (Nat.ne_of_lt hlt)]
      exact (hf c hcm).1
  done := by
    intro X hP hw hK hc i pins s σ H E I hf st hg
    subst hP hw hK
    obtain ⟨hz, hTI, ⟨x0, y0, hTO⟩, h1, h2⟩ := st
    obtain ⟨xs, ys, hqx, hqy, hend⟩ := hg
    obtain ⟨its, rv, p, _⟩ := I.list hqx
    obtain ⟨its2, rv2, p2, _⟩ := I.list hqy
    have l1 := rv.length
    have l2 := rv2.length
    have he : its.toArray[i]? = none ∨ its2.toArray[i]? = none := by
      rcases hend with q | q
      · exact .inl (by simp; omega)
      · exact .inr (by simp; omega)
    exact wpAny_pyNext_zip_end (I.ok.hd hc) D hz hTI hTO h1 h2 p.isList p2.isList he fun h' hk => ⟨rfl, I.turnedL (t' := s.toks) (ch := [z, TI, TO, i1, i2]) (fun c o hb q =>
      hk c o (fun q' => hb (by simp [q'])) (fun q' => hb (by simp [q'])) (fun q' => hb (by simp [q'])) (fun q' => hb (by simp [q'])) q) hf⟩
  self := fun A i s Q E st h => wpAny_pyIter_zip st.1 h
def iZip (K : PySem.W.Frag) (ta : TA) : TI := fun σ H R => ta σ H fun vs H1 => ∃ a b xs ys, vs = [.ref a, .ref b] ∧ SqL K H1 a xs ∧ SqL K H1 b ys ∧ R (Itz K a b) H1
theorem pi_zip {X : Cx} {e e2 : Expr} {ta : TA} {p pos tpos : Pos} {elts : List Expr} {kk : Nat} (hg : Gl X "zip") (hm : X.mg "zip" = none) (ha : PA X [e, e2] ta)
    (hs : starEach [e, e2] X.env = (false, eval e X.env) :: starEach [e2] X.env := by rfl) (hpl : (backTo pos (starEach [e2] X.env)).any (·.1) = false := by rfl) :
    PI X (.Tuple elts kk tpos) (.Call (.Name "zip" p) [e, e2] [] pos) (iZip X.K ta) := by
  intro pins s σ H R I h
  refine Call_ (ld_blt I hg hm boot_zip5 (PyProof.Rows.callWith_type1 (thn (ha pos pins s σ H _ I h) fun us s1 ⟨vs, H1, I1, r1, q1⟩ => ?_) hs hpl))
  obtain ⟨a, b, xs, ys, ex, hqx, hqy, q⟩ := q1
  subst ex
  cases r1 with
  | cons r rr =>
    cases rr with
    | cons r' rr =>
      cases rr
      cases r
      cases r'
      obtain ⟨its, rv, p1, _⟩ := I1.list hqx
      obtain ⟨its2, rv2, p2, _⟩ := I1.list hqy
      have la : a < s1.heap.objs.size := p1.lt
      have lb : b < s1.heap.objs.size := p2.lt
      refine call_zip_2 p1.isList p2.isList fun h' hz hTI hTO h1 h2 hsz hk => wpAny_pyIter_zip hz ?_
      have I2 : Inv X pins σ H1 { s1 with heap := h' } := I1.kept (t' := s1.toks) hk
      refine ⟨s1.heap.objs.size + 4, [s1.heap.objs.size + 4, s1.heap.objs.size + 2, s1.heap.objs.size + 3, s1.heap.objs.size, s1.heap.objs.size + 1], _, _, H1, rfl, I2, turn_zip (PySem.W.ktu_apart s1.heap.objs.size a b la lb), ⟨hz, hTI, ⟨_, _, hTO⟩, h1, h2⟩, fun c hcm => ?_, q⟩
      have e' : c = s1.heap.objs.size + 4 ∨ c = s1.heap.objs.size + 2 ∨ c = s1.heap.objs.size + 3 ∨ c = s1.heap.objs.size ∨ c = s1.heap.objs.size + 1 := by simpa using hcm
      have hle : s1.heap.objs.size ≤ c := by
        rcases e' with z | z | z | z | z
        · rw [z]; exact Nat.le_add_right _ _
        · rw [z]; exact Nat.le_add_right _ _
        · rw [z]; exact Nat.le_add_right _ _
        · rw [z]; exact Nat.le_refl _
        · rw [z]; exact Nat.le_add_right _ _
      exact I1.fpOk hle (I1.hok.fresh hle)
end L2

section 
namespace Bits
open PySem PyProof.Rows

theorem nat_and_mul_pow (k : Nat) : ∀ a b : Nat, a < 2 ^ k → a &&& (b * 2 ^ k) = 0 := by
  induction k with
  | zero =>
    intro a b h
    have h0 : a = 0 := by
      rw [Nat.pow_zero] at h
      omega
    subst h0
    simp
  | succ k ih =>
    intro a b h
    have hm : (b * 2 ^ (k + 1)) = (b * 2 ^ k) * 2 := by rw [Nat.pow_succ, Nat.mul_assoc]
    have hlt : a / 2 < 2 ^ k := by
      rw [Nat.pow_succ] at h
      generalize 2 ^ k = m at h ⊢
      omega
    have i := ih (a / 2) b hlt
    rw [hm]
    generalize b * 2 ^ k = B at i ⊢
    have e : (a &&& (B * 2)) / 2 = a / 2 &&& (B * 2) / 2 := Nat.and_div_two
    have e2 : (B * 2) / 2 = B := by omega
    have o := @Nat.and_mod_two_eq_one a (B * 2)
    rw [e2, i] at e
    omega

theorem natCast_mul_pow (m k : Nat) : (m : Int) * 2 ^ k = ((m * 2 ^ k : Nat) : Int) := by
  rw [two_pow_cast]
  first
    | exact (Int.natCast_mul _ _).symm
    | simp

/-- low bits a, high part b: (b << k) | a -/
theorem bitOr_join {a b : Int} {k : Nat} (h0 : 0 ≤ a) (h1 : a < 2 ^ k) (hb : 0 ≤ b) : Builtin.bitOr a (b * 2 ^ k) = a + b * 2 ^ k := by
  obtain ⟨n, rfl⟩ := Int.eq_ofNat_of_zero_le h0
  obtain ⟨m, rfl⟩ := Int.eq_ofNat_of_zero_le hb
  have hn : n < 2 ^ k := by
    rw [two_pow_cast] at h1
    omega
  have e : Builtin.bitAnd (n : Int) ((m * 2 ^ k : Nat) : Int) = 0 := by
    rw [bitAnd_pp (by omega) (by omega), Int.toNat_natCast, Int.toNat_natCast, nat_and_mul_pow k n m hn] <;> rfl
  rw [natCast_mul_pow, bitOr_and, e]
  omega
theorem bitOr_join' {a b : Int} {k : Nat} (h0 : 0 ≤ a) (h1 : a < 2 ^ k) (hb : 0 ≤ b) : Builtin.bitOr (b * 2 ^ k) a = a + b * 2 ^ k := by
  rw [bitOr_comm]
  exact bitOr_join h0 h1 hb

/-- x & ((1 << k) - 1) -/
theorem bitAnd_mask {x : Int} (k : Nat) (hx : 0 ≤ x) : Builtin.bitAnd x (2 ^ k - 1) = x % 2 ^ k := by
  obtain ⟨n, rfl⟩ := Int.eq_ofNat_of_zero_le hx
  have hp : 0 < 2 ^ k := Nat.two_pow_pos k
  rw [two_pow_cast]
  have e : ((2 ^ k : Nat) : Int) - 1 = ((2 ^ k - 1 : Nat) : Int) := by
    generalize (2 : Nat) ^ k = m at hp
    omega
  rw [e, bitAnd_pp (by omega) (by omega), Int.toNat_natCast, Int.toNat_natCast, Nat.and_two_pow_sub_one_eq_mod]
  first
    | rfl
    | exact Int.natCast_emod _ _
    | simp

/-- (x >> i) & 1 -/
theorem bit_at {x : Int} (i : Nat) : Builtin.bitAnd (x.fdiv (2 ^ i)) 1 = x / 2 ^ i % 2 := by
  have hp : (0 : Int) ≤ 2 ^ i := by
    rw [two_pow_cast]
    exact Int.natCast_nonneg _
  rw [Int.fdiv_eq_ediv_of_nonneg _ hp, bitAnd_m1]

theorem nat_xor_add_and (m : Nat) : ∀ n : Nat, (m ^^^ n) + 2 * (m &&& n) = m + n := by
  induction m using Nat.strongRecOn with
  | _ m ih =>
    intro n
    by_cases h0 : m = 0
    · subst h0
      simp
    · have ih' := ih (m / 2) (by omega) (n / 2)
      rw [← Nat.xor_div_two, ← Nat.and_div_two] at ih'
      have o1 := @Nat.xor_mod_two_eq_one m n
      have a1 := @Nat.and_mod_two_eq_one m n
      omega

theorem bitXor_pp {x y : Int} (hx : 0 ≤ x) (hy : 0 ≤ y) : Builtin.bitXor x y = ((x.toNat ^^^ y.toNat : Nat) : Int) := by
  have e := nat_xor_add_and x.toNat y.toNat
  rw [bitXor_and, bitAnd_pp hx hy]
  omega
theorem bitOr_pp {x y : Int} (hx : 0 ≤ x) (hy : 0 ≤ y) : Builtin.bitOr x y = ((x.toNat ||| y.toNat : Nat) : Int) := by
  have e := nat_or_add_and x.toNat y.toNat
  rw [bitOr_and, bitAnd_pp hx hy]
  omega
theorem bitXor_nonneg {x y : Int} (hx : 0 ≤ x) (hy : 0 ≤ y) : 0 ≤ Builtin.bitXor x y := by
  rw [bitXor_pp hx hy]
  omega
theorem bitOr_nonneg {x y : Int} (hx : 0 ≤ x) (hy : 0 ≤ y) : 0 ≤ Builtin.bitOr x y := by
  rw [bitOr_pp hx hy]
  omega

end Bits
end 

section 
namespace TL
open PySem PySem.Builtin PySem.Builtin.Str PySem.StrLaws

abbrev tl (x : Str) : List Nat := x.cps.toList
theorem len_tl (x : Str) : x.length = (tl x).length := by simp [tl, Str.length]
theorem ext_tl {x y : Str} (h : tl x = tl y) : x = y := Str.ext' (Array.toList_inj.mp h)
theorem tl_append (x y : Str) : tl (x ++ y) = tl x ++ tl y := by
  show (x ++ y).cps.toList = _
  rw [Str.cps_append, Array.toList_append]
theorem tl_mk (l : List Nat) : tl ⟨l.toArray⟩ = l := rfl
theorem mk_tl (x : Str) : (⟨(tl x).toArray⟩ : Str) = x := ext_tl rfl
theorem map_tl_inj : ∀ {l m : List Str}, l.map tl = m.map tl → l = m
  | [], [], _ => rfl
  | [], _ :: _, h => by simp at h
  | _ :: _, [], h => by simp at h
  | x :: l, y :: m, h => by
    rw [List.map_cons, List.map_cons] at h
    injection h with h1 h2
    rw [ext_tl h1, map_tl_inj h2]
theorem tl_ofString (s : String) : tl (Str.ofString s) = s.toList.map Char.toNat := PyProof.Rows.signs_ofString s

/-! ### the list functions -/
/-- S stands at the head of l -/
def pre (S l : List Nat) : Bool := l.take S.length == S
/-- l cut at each S from the left; k signs are still to be passed over -/
def spl (S : List Nat) : Nat → List Nat → List Nat → List (List Nat)
  | _, acc, [] => [acc]
  | 0, acc, c :: r => if pre S (c :: r) = true then acc :: spl S (S.length - 1) [] r else spl S 0 (acc ++ [c]) r
  | k + 1, acc, _ :: r => spl S k acc r
/-- what stands before the first S, and behind it -/
def par (S : List Nat) : List Nat → List Nat → Option (List Nat × List Nat)
  | _, [] => none
  | acc, c :: r => if pre S (c :: r) = true then some (acc, (c :: r).drop S.length) else par S (acc ++ [c]) r

theorem spl_nil (S : List Nat) (k : Nat) (acc : List Nat) : spl S k acc [] = [acc] := by cases k <;> rfl
theorem spl_hit {S acc r : List Nat} {c : Nat} (h : pre S (c :: r) = true) : spl S 0 acc (c :: r) = acc :: spl S (S.length - 1) [] r := by
  show (if pre S (c :: r) = true then acc :: spl S (S.length - 1) [] r else spl S 0 (acc ++ [c]) r) = _
  rw [if_pos h]
theorem spl_miss {S acc r : List Nat} {c : Nat} (h : pre S (c :: r) = false) : spl S 0 acc (c :: r) = spl S 0 (acc ++ [c]) r := by
  show (if pre S (c :: r) = true then acc :: spl S (S.length - 1) [] r else spl S 0 (acc ++ [c]) r) = _
  rw [if_neg (by rw [h]; exact Bool.false_ne_true)]
theorem spl_pass (S : List Nat) : ∀ (k : Nat) (acc l : List Nat), spl S k acc l = spl S 0 acc (l.drop k)
  | 0, _, _ => by rw [List.drop_zero]
  | k + 1, acc, [] => by rw [List.drop_nil, spl_nil, spl_nil]
  | k + 1, acc, c :: r => by
    show spl S k acc r = spl S 0 acc (r.drop k)
    exact spl_pass S k acc r
theorem par_hit {S acc r : List Nat} {c : Nat} (h : pre S (c :: r) = true) : par S acc (c :: r) = some (acc, (c :: r).drop S.length) := by
  show (if pre S (c :: r) = true then some (acc, (c :: r).drop S.length) else par S (acc ++ [c]) r) = _
  rw [if_pos h]
theorem par_miss {S acc r : List Nat} {c : Nat} (h : pre S (c :: r) = false) : par S acc (c :: r) = par S (acc ++ [c]) r := by
  show (if pre S (c :: r) = true then some (acc, (c :: r).drop S.length) else par S (acc ++ [c]) r) = _
  rw [if_neg (by rw [h]; exact Bool.false_ne_true)]

theorem pre_nil {S : List Nat} (hS : S ≠ []) : pre S [] = false := by
  cases S with
  | nil => exact absurd rfl hS
  | cons s S => rfl
theorem pre_of_head {s c : Nat} (S r : List Nat) (h : c ≠ s) : pre (s :: S) (c :: r) = false := by
  cases hp : pre (s :: S) (c :: r) with
  | false => rfl
  | true =>
    have e : (c :: r).take (s :: S).length = s :: S := eq_of_beq hp
    rw [List.length_cons, List.take_succ_cons] at e
    injection e with e1 e2
    exact absurd e1 h
theorem pre_self (S r : List Nat) : pre S (S ++ r) = true := by
  show ((S ++ r).take S.length == S) = true
  have e : (S ++ r).take S.length = S := List.take_left
  rw [e] <;> exact beq_self_eq_true S

theorem getElem_drop_cons {L : List Nat} {a : Nat} (h : a < L.length) : ∃ c, L.drop a = c :: L.drop (a + 1) := ⟨L[a], List.drop_eq_getElem_cons h⟩
theorem spl_run (S L : List Nat) : ∀ (m a : Nat) (acc : List Nat), a + m ≤ L.length → (∀ k, a ≤ k → k < a + m → pre S (L.drop k) = false) →
    spl S 0 acc (L.drop a) = spl S 0 (acc ++ (L.drop a).take m) (L.drop (a + m))
  | 0, a, acc, _, _ => by rw [List.take_zero, List.append_nil, Nat.add_zero]
  | m + 1, a, acc, h, hn => by
    have hlt : a < L.length := by omega
    obtain ⟨c, e⟩ := getElem_drop_cons hlt
    have h0 := hn a (Nat.le_refl _) (by omega)
    have ih := spl_run S L m (a + 1) (acc ++ [c]) (by omega) (fun k h1 h2 => hn k (by omega) (by omega))
    have e2 : a + 1 + m = a + (m + 1) := by omega
    rw [e2] at ih
    rw [e] at h0
    rw [e, spl_miss h0, ih, List.take_succ_cons, List.append_assoc] <;> rfl
theorem par_run (S L : List Nat) : ∀ (m a : Nat) (acc : List Nat), a + m ≤ L.length → (∀ k, a ≤ k → k < a + m → pre S (L.drop k) = false) →
    par S acc (L.drop a) = par S (acc ++ (L.drop a).take m) (L.drop (a + m))
  | 0, a, acc, _, _ => by rw [List.take_zero, List.append_nil, Nat.add_zero]
  | m + 1, a, acc, h, hn => by
    have hlt : a < L.length := by omega
    obtain ⟨c, e⟩ := getElem_drop_cons hlt
    have h0 := hn a (Nat.le_refl _) (by omega)
    have ih := par_run S L m (a + 1) (acc ++ [c]) (by omega) (fun k h1 h2 => hn k (by omega) (by omega))
    have e2 : a + 1 + m = a + (m + 1) := by omega
    rw [e2] at ih
    rw [e] at h0
    rw [e, par_miss h0, ih, List.take_succ_cons, List.append_assoc] <;> rfl
theorem drop_two (L : List Nat) (a b : Nat) : (L.drop a).drop b = L.drop (a + b) := by
  first
    | rw [List.drop_drop]
    | rw [List.drop_drop, Nat.add_comm]
theorem spl_at {S L : List Nat} (hS : S ≠ []) {c : Nat} {acc : List Nat} (h : pre S (L.drop c) = true) : spl S 0 acc (L.drop c) = acc :: spl S 0 [] (L.drop (c + S.length)) := by
  rw [← drop_two]
  cases e : L.drop c with
  | nil => rw [e, pre_nil hS] at h; cases h
  | cons d r =>
    rw [e] at h
    rw [spl_hit h, spl_pass]
    cases S with
    | nil => exact absurd rfl hS
    | cons s S => rfl
theorem par_at {S L : List Nat} (hS : S ≠ []) {c : Nat} {acc : List Nat} (h : pre S (L.drop c) = true) : par S acc (L.drop c) = some (acc, L.drop (c + S.length)) := by
  rw [← drop_two]
  cases e : L.drop c with
  | nil => rw [e, pre_nil hS] at h; cases h
  | cons d r =>
    rw [e] at h
    rw [par_hit h]

/-! ### the model's split and partition are these -/
theorem at_iff {x y : Str} (hy : tl y ≠ []) (i : Nat) : At x y x.length i ↔ pre (tl y) ((tl x).drop i) = true := by
  have hx := len_tl x
  have hl := len_tl y
  constructor
  · intro h
    have h2 := h.2
    rw [subAt_eq, hl] at h2
    exact h2
  · intro h
    have e : ((tl x).drop i).take (tl y).length = tl y := eq_of_beq h
    have e1 := congrArg List.length e
    rw [List.length_take, List.length_drop] at e1
    have e2 : 0 < (tl y).length := List.length_pos_iff.mpr hy
    refine ⟨by omega, ?_⟩
    rw [subAt_eq, hl]
    exact h
theorem no_at {x y : Str} (hy : tl y ≠ []) {i : Nat} (h : ¬ At x y x.length i) : pre (tl y) ((tl x).drop i) = false := by
  cases hp : pre (tl y) ((tl x).drop i) with
  | false => rfl
  | true => exact absurd ((at_iff hy i).mpr hp) h
theorem len1 {y : Str} (hy : tl y ≠ []) : 1 ≤ y.length := by
  have e2 : 0 < (tl y).length := List.length_pos_iff.mpr hy
  rw [len_tl y]
  exact e2
theorem tl_strSub (x : Str) (i j : Nat) : tl (strSub x i j) = ((tl x).drop i).take (j - i) := strSub_toList x i j
theorem tl_strSub_end (x : Str) (i : Nat) : tl (strSub x i x.length) = (tl x).drop i := by
  rw [tl_strSub, len_tl x]
  exact List.take_of_length_le (by rw [List.length_drop] <;> omega)

theorem parts_spl {x y : Str} (hy : tl y ≠ []) : ∀ (cuts : List Nat) (a f : Nat), a ≤ (tl x).length → ChainG x y x.length a cuts f → (∀ k, f ≤ k → ¬ At x y x.length k) →
    (partsFrom x y.length a cuts).map tl = spl (tl y) 0 [] ((tl x).drop a)
  | [], a, f, ha, h, hn => by
    have e : f = a := h
    subst e
    show [tl (strSub x f x.length)] = _
    have run := spl_run (tl y) (tl x) ((tl x).length - f) f [] (by omega) (fun k h1 _ => no_at hy (hn k h1))
    have e2 : f + ((tl x).length - f) = (tl x).length := by omega
    rw [e2, List.drop_length, spl_nil, List.nil_append, List.take_of_length_le (by rw [List.length_drop] <;> omega)] at run
    rw [run, tl_strSub_end]
  | c :: r, a, f, ha, h, hn => by
    obtain ⟨h1, h2, h3, h4⟩ := h
    have hc : c + y.length ≤ x.length := h2.1
    have hx := len_tl x
    have hl := len_tl y
    have ih := parts_spl hy r (c + y.length) f (by omega) h4 hn
    show tl (strSub x a c) :: (partsFrom x y.length (c + y.length) r).map tl = _
    have run := spl_run (tl y) (tl x) (c - a) a [] (by omega) (fun k k1 k2 => no_at hy (h3 k k1 (by omega)))
    have e2 : a + (c - a) = c := by omega
    rw [e2, List.nil_append, spl_at hy ((at_iff hy c).mp h2)] at run
    rw [run, ih, tl_strSub, hl]

/-- hk: by kind_ok where the separator is plain -/
theorem split_spl (x y : Str) (hy : tl y ≠ []) (hk : ¬ Builtin.Str.strKind x < Builtin.Str.strKind y) : (Txt.split x y).map tl = spl (tl y) 0 [] (tl x) := by
  obtain ⟨f, g, hn⟩ := occ_tight x y (len1 hy)
  have key := parts_spl hy _ 0 f (Nat.zero_le _) g hn
  rw [List.drop_zero] at key
  have none_case : occurrences x y 0 x.length (x.length + 1) = [] → [x].map tl = spl (tl y) 0 [] (tl x) := fun ho => by
    rw [ho] at key
    rw [← key]
    show [tl x] = [tl (strSub x 0 x.length)]
    rw [sub_whole]
  unfold Txt.split
  by_cases h1 : (decide (x.length < y.length) || decide (Builtin.Str.strKind x < Builtin.Str.strKind y)) = true
  · rw [if_pos h1]
    have hlt : x.length < y.length := by
      simp only [Bool.or_eq_true, decide_eq_true_eq] at h1
      rcases h1 with h | h
      · exact h
      · exact absurd h hk
    refine none_case ?_
    cases ho : occurrences x y 0 x.length (x.length + 1) with
    | nil => rfl
    | cons c r =>
      rw [ho] at g
      have hc : c + y.length ≤ x.length := g.2.1.1
      omega
  · rw [if_neg h1]
    by_cases h2 : (occurrences x y 0 x.length (x.length + 1)).isEmpty = true
    · rw [if_pos h2]
      exact none_case (List.isEmpty_iff.mp h2)
    · rw [if_neg h2, partsBetween_eq]
      exact key
theorem kind_ok {x y : Str} (h : y.cps.all (· < 256) = true) : ¬ Builtin.Str.strKind x < Builtin.Str.strKind y := by
  have e : Builtin.Str.strKind y = 1 := by unfold PySem.Builtin.Str.strKind; rw [if_pos h]
  rw [e]
  unfold PySem.Builtin.Str.strKind
  split
  · omega
  · split <;> omega

theorem partition_par (x y : Str) (hy : tl y ≠ []) :
    Txt.partition x y = (match par (tl y) [] (tl x) with | some (a, b) => (⟨a.toArray⟩, y, ⟨b.toArray⟩) | none => (x, Str.empty, Str.empty)) := by
  have hx := len_tl x
  have hl := len_tl y
  rcases PyProof.Rows.partition_whole x y with ⟨e, hn⟩ | ⟨i, e, hi, hn⟩
  · have run := par_run (tl y) (tl x) (tl x).length 0 [] (by omega) (fun k _ _ => no_at hy (hn k))
    rw [List.drop_zero, Nat.zero_add, List.drop_length] at run
    rw [e, run] <;> rfl
  · have hb : i + y.length ≤ x.length := hi.1
    have run := par_run (tl y) (tl x) i 0 [] (by omega) (fun k _ k2 => no_at hy (hn k (by omega)))
    rw [List.drop_zero, Nat.zero_add, List.nil_append, par_at hy ((at_iff hy i).mp hi)] at run
    rw [e, run]
    have e1 : strSub x 0 i = ⟨((tl x).take i).toArray⟩ := ext_tl (by rw [tl_strSub, List.drop_zero, Nat.sub_zero])
    have e2 : strSub x (i + y.length) x.length = ⟨((tl x).drop (i + (tl y).length)).toArray⟩ := ext_tl (by rw [tl_strSub_end, hl])
    rw [e1, e2] <;> rfl

/-! ### computing spl and par -/
/-- a part that the separator does not begin in, then the separator -/
theorem spl_part {S p rest acc : List Nat} (hS : S ≠ []) (h : ∀ i, i < p.length → pre S ((p ++ (S ++ rest)).drop i) = false) :
    spl S 0 acc (p ++ (S ++ rest)) = (acc ++ p) :: spl S 0 [] rest := by
  have run := spl_run S (p ++ (S ++ rest)) p.length 0 acc (by rw [List.length_append]; omega) (fun k _ k2 => h k (by omega))
  have ed : (p ++ (S ++ rest)).drop p.length = S ++ rest := List.drop_left
  rw [List.drop_zero, Nat.zero_add, List.take_left] at run
  rw [run, spl_at hS (by rw [ed]; exact pre_self S rest), ← drop_two, ed, List.drop_left]
theorem spl_last {S p acc : List Nat} (h : ∀ i, i < p.length → pre S (p.drop i) = false) : spl S 0 acc p = [acc ++ p] := by
  have run := spl_run S p p.length 0 acc (by omega) (fun k _ k2 => h k (by omega))
  rw [List.drop_zero, Nat.zero_add, List.drop_length, spl_nil, List.take_length] at run
  exact run
theorem par_part {S p rest acc : List Nat} (hS : S ≠ []) (h : ∀ i, i < p.length → pre S ((p ++ (S ++ rest)).drop i) = false) :
    par S acc (p ++ (S ++ rest)) = some (acc ++ p, rest) := by
  have run := par_run S (p ++ (S ++ rest)) p.length 0 acc (by rw [List.length_append]; omega) (fun k _ k2 => h k (by omega))
  have ed : (p ++ (S ++ rest)).drop p.length = S ++ rest := List.drop_left
  rw [List.drop_zero, Nat.zero_add, List.take_left] at run
  rw [run, par_at hS (by rw [ed]; exact pre_self S rest), ← drop_two, ed, List.drop_left]
theorem par_none {S p acc : List Nat} (h : ∀ i, i < p.length → pre S (p.drop i) = false) : par S acc p = none := by
  have run := par_run S p p.length 0 acc (by omega) (fun k _ k2 => h k (by omega))
  rw [List.drop_zero, Nat.zero_add, List.drop_length] at run
  exact run
/-- the separator's first sign is not in the part -/
theorem free_of {s : Nat} {S p q : List Nat} (h : s ∉ p) : ∀ i, i < p.length → pre (s :: S) ((p ++ q).drop i) = false := fun i hi => by
  have hlt : i < (p ++ q).length := by rw [List.length_append]; omega
  have e : (p ++ q).drop i = (p ++ q)[i] :: (p ++ q).drop (i + 1) := List.drop_eq_getElem_cons hlt
  rw [e]
  refine pre_of_head _ _ fun z => h ?_
  have e1 : (p ++ q)[i] = p[i] := List.getElem_append_left hi
  rw [← z, e1]
  exact List.getElem_mem hi
theorem spl_part1 {s : Nat} {S p rest acc : List Nat} (h : s ∉ p) : spl (s :: S) 0 acc (p ++ (s :: S ++ rest)) = (acc ++ p) :: spl (s :: S) 0 [] rest :=
  spl_part (by simp) (free_of h)
theorem spl_last1 {s : Nat} {S p acc : List Nat} (h : s ∉ p) : spl (s :: S) 0 acc p = [acc ++ p] := spl_last fun i hi => by
  have z := free_of (S := S) (q := []) h i hi
  rw [List.append_nil] at z
  exact z
theorem par_part1 {s : Nat} {S p rest acc : List Nat} (h : s ∉ p) : par (s :: S) acc (p ++ (s :: S ++ rest)) = some (acc ++ p, rest) := par_part (by simp) (free_of h)
theorem par_none1 {s : Nat} {S p acc : List Nat} (h : s ∉ p) : par (s :: S) acc p = none := par_none fun i hi => by
  have z := free_of (S := S) (q := []) h i hi
  rw [List.append_nil] at z
  exact z

/-- joined lists -/
def joinL (S : List Nat) : List (List Nat) → List Nat
  | [] => []
  | [p] => p
  | p :: q :: r => p ++ (S ++ joinL S (q :: r))
theorem tl_join (y : Str) : ∀ parts : List Str, tl (Str.join y parts) = joinL (tl y) (parts.map tl)
  | [] => rfl
  | [_] => rfl
  | x :: z :: r => by
    show tl (x ++ y ++ Str.join y (z :: r)) = tl x ++ (tl y ++ joinL (tl y) ((z :: r).map tl))
    rw [tl_append, tl_append, tl_join y (z :: r), List.append_assoc]
theorem spl_join {s : Nat} {S : List Nat} : ∀ {parts : List (List Nat)}, parts ≠ [] → (∀ p ∈ parts, s ∉ p) → spl (s :: S) 0 [] (joinL (s :: S) parts) = parts
  | [], h, _ => absurd rfl h
  | [p], _, hp => by
    show spl (s :: S) 0 [] p = [p]
    rw [spl_last1 (hp p (List.mem_singleton.mpr rfl)), List.nil_append]
  | p :: q :: r, _, hp => by
    show spl (s :: S) 0 [] (p ++ (s :: S ++ joinL (s :: S) (q :: r))) = p :: q :: r
    rw [spl_part1 (hp p (List.mem_cons_self ..)), List.nil_append, spl_join (by simp) fun z hz => hp z (List.mem_cons_of_mem _ hz)]
theorem join_eq (y : Str) (parts : List Str) : Txt.join y parts = Str.join y parts := glued_eq_join y parts
/-- THE READ-BACK: a joined text, split -/
theorem split_join {y : Str} {s : Nat} {S : List Nat} (ey : tl y = s :: S) (hk : y.cps.all (· < 256) = true) {parts : List Str} (hne : parts ≠ []) (hp : ∀ p ∈ parts, s ∉ tl p) :
    Txt.split (Txt.join y parts) y = parts := by
  refine map_tl_inj ?_
  rw [split_spl _ y (by rw [ey]; simp) (kind_ok hk), join_eq, tl_join, ey]
  refine spl_join (fun e => hne (List.map_eq_nil_iff.mp e)) fun p h => ?_
  obtain ⟨z, hz, rfl⟩ := List.mem_map.mp h
  exact hp z hz
/-- a text cut at its first separator -/
theorem partition_app {y : Str} {s : Nat} {S : List Nat} (ey : tl y = s :: S) {a b : Str} (h : s ∉ tl a) : Txt.partition (a ++ y ++ b) y = (a, y, b) := by
  rw [partition_par _ y (by rw [ey]; simp), tl_append, tl_append, List.append_assoc, ey, par_part1 h]
  show ((⟨([] ++ tl a).toArray⟩ : Str), y, (⟨(tl b).toArray⟩ : Str)) = _
  rw [List.nil_append, mk_tl, mk_tl]
theorem partition_none {y : Str} {s : Nat} {S : List Nat} (ey : tl y = s :: S) {a : Str} (h : s ∉ tl a) : Txt.partition a y = (a, Str.empty, Str.empty) := by
  rw [partition_par _ y (by rw [ey]; simp), ey, par_none1 h]

/-! ### digits -/
/-- the signs of a number -/
def numL (n : Nat) : List Nat := (Nat.toDigits 10 n).map Char.toNat
theorem tl_num (n : Nat) : tl (Str.ofString (toString ((n : Nat) : Int))) = numL n := PySem.W.KIN.signs_num n
theorem digitChar_nat : ∀ d : Nat, d < 10 → (Nat.digitChar d).toNat = 48 + d := by decide
theorem numL_lt {n : Nat} (h : n < 10) : numL n = [48 + n] := by
  unfold numL
  rw [Nat.toDigits_of_lt_base h]
  show [(Nat.digitChar n).toNat] = _
  rw [digitChar_nat n h]
theorem numL_step {n : Nat} (h : 10 ≤ n) : numL n = numL (n / 10) ++ [48 + n % 10] := by
  have hm : n % 10 < 10 := Nat.mod_lt n (by decide)
  have t : Nat.toDigits 10 (n / 10) ++ Nat.toDigits 10 (n % 10) = Nat.toDigits 10 (10 * (n / 10) + n % 10) := Nat.toDigits_append_toDigits (by decide) (by omega) hm
  rw [Nat.div_add_mod] at t
  show (Nat.toDigits 10 n).map Char.toNat = _
  rw [← t, List.map_append, Nat.toDigits_of_lt_base hm]
  show (Nat.toDigits 10 (n / 10)).map Char.toNat ++ [(Nat.digitChar (n % 10)).toNat] = _
  rw [digitChar_nat _ hm] <;> rfl
theorem numL_digits (n : Nat) : NumText.AllDigits (numL n) := by
  induction n using Nat.strongRecOn with
  | _ n ih =>
    by_cases h : n < 10
    · rw [numL_lt h]
      intro c hc
      rw [List.mem_singleton.mp hc]
      omega
    · rw [numL_step (by omega)]
      intro c hc
      rcases List.mem_append.mp hc with hc | hc
      · exact ih (n / 10) (by omega) c hc
      · have hm : n % 10 < 10 := Nat.mod_lt n (by decide)
        rw [List.mem_singleton.mp hc]
        omega
theorem numL_ne (n : Nat) : numL n ≠ [] := by
  by_cases h : n < 10
  · rw [numL_lt h]
    simp
  · rw [numL_step (by omega)]
    simp
theorem numL_free {n s : Nat} (h : s < 48 ∨ 57 < s) : s ∉ numL n := fun hm => by
  have r := numL_digits n s hm
  omega
theorem numL_val (n : Nat) : NumText.digitsVal (numL n) = n := PySem.W.KIN.val_back n
theorem numL_inj {m n : Nat} (h : numL m = numL n) : m = n := by
  have e := congrArg NumText.digitsVal h
  rw [numL_val, numL_val] at e
  exact e
theorem numL_len {n k : Nat} (hk : 0 < k) (h : n < 10 ^ k) : (numL n).length ≤ k := by
  have z := PyProof.Rows.toString_length_le (v := (n : Int)) (by omega) hk (by
    have e : ((10 : Int) ^ k) = ((10 ^ k : Nat) : Int) := by
      first
        | exact (Int.natCast_pow 10 k).symm
        | simp
    rw [e]
    first | exact Int.ofNat_lt.mpr h | omega)
  rw [len_tl, tl_num] at z
  exact z
/-- int(str(n)) -/
theorem int_num {n : Nat} (h : (numL n).length ≤ 4300) : intText? (Str.ofString (toString ((n : Nat) : Int))) = some (n : Int) := by
  have e := intText_digits (x := Str.ofString (toString ((n : Nat) : Int))) (by rw [show (Str.ofString (toString ((n : Nat) : Int))).cps.toList = numL n from tl_num n]; exact numL_digits n)
    (by rw [show (Str.ofString (toString ((n : Nat) : Int))).cps.toList = numL n from tl_num n]; exact numL_ne n) (by rw [len_tl, tl_num]; exact h)
  rw [show (Str.ofString (toString ((n : Nat) : Int))).cps.toList = numL n from tl_num n, numL_val] at e
  exact e
/-- a program's own loop over digits: total = total * 10 + (ord(sign) - ord("0")) -/
theorem fold_digits : ∀ (l : List Nat) (a : Nat), NumText.AllDigits l → l.foldl (fun (t : Int) (c : Nat) => t * 10 + ((c : Int) - 48)) (a : Int) = ((l.foldl (fun acc c => acc * 10 + (c - 48)) a : Nat) : Int)
  | [], _, _ => rfl
  | c :: r, a, h => by
    have hc := h.head
    rw [List.foldl_cons, List.foldl_cons, ← fold_digits r _ h.tail]
    have e : (a : Int) * 10 + ((c : Int) - 48) = ((a * 10 + (c - 48) : Nat) : Int) := by omega
    rw [e]
theorem fold_num (n : Nat) : (numL n).foldl (fun (t : Int) (c : Nat) => t * 10 + ((c : Int) - 48)) 0 = (n : Int) := by
  have e := fold_digits (numL n) 0 (numL_digits n)
  have v := numL_val n
  unfold NumText.digitsVal at v
  rw [v] at e
  exact e

/-! ### words: x.split() -/
def wstep (st : List (List Nat) × List Nat) (c : Nat) : List (List Nat) × List Nat :=
  if Unicode.isSpace c = true then (if st.2 = [] then st else (st.1 ++ [st.2], [])) else (st.1, st.2 ++ [c])
def wfin (st : List (List Nat) × List Nat) : List (List Nat) := if st.2 = [] then st.1 else st.1 ++ [st.2]
theorem len0_tl (x : Str) : x.length = 0 ↔ tl x = [] := by
  rw [len_tl]
  exact List.length_eq_zero_iff
theorem step_tl (ws : List Str) (u : Str) (c : Nat) : ((KWd.step (ws, u) c).1.map tl, tl (KWd.step (ws, u) c).2) = wstep (ws.map tl, tl u) c := by
  by_cases hc : Unicode.isSpace c = true
  · by_cases hu : u.length = 0
    · have a : KWd.step (ws, u) c = (ws, u) := (if_pos hc).trans (if_pos hu)
      have b : wstep (ws.map tl, tl u) c = (ws.map tl, tl u) := (if_pos hc).trans (if_pos ((len0_tl u).mp hu))
      rw [a, b] <;> rfl
    · have a : KWd.step (ws, u) c = (ws ++ [u], Str.empty) := (if_pos hc).trans (if_neg hu)
      have b : wstep (ws.map tl, tl u) c = (ws.map tl ++ [tl u], []) := (if_pos hc).trans (if_neg fun z => hu ((len0_tl u).mpr z))
      rw [a, b]
      show ((ws ++ [u]).map tl, ([] : List Nat)) = _
      rw [List.map_append] <;> rfl
  · have a : KWd.step (ws, u) c = (ws, u ++ ⟨#[c]⟩) := if_neg hc
    have b : wstep (ws.map tl, tl u) c = (ws.map tl, tl u ++ [c]) := if_neg hc
    rw [a, b]
    show (ws.map tl, tl (u ++ ⟨#[c]⟩)) = _
    rw [tl_append] <;> rfl
theorem scan_tl : ∀ (l : List Nat) (st : KWd.St), ((l.foldl KWd.step st).1.map tl, tl (l.foldl KWd.step st).2) = l.foldl wstep (st.1.map tl, tl st.2)
  | [], _ => rfl
  | c :: r, (ws, u) => by
    show ((r.foldl KWd.step (KWd.step (ws, u) c)).1.map tl, tl (r.foldl KWd.step (KWd.step (ws, u) c)).2) = r.foldl wstep (wstep (ws.map tl, tl u) c)
    exact (scan_tl r (KWd.step (ws, u) c)).trans (congrArg (fun z => r.foldl wstep z) (step_tl ws u c))
theorem fin_tl : ∀ q : KWd.St, (KWd.fin q).map tl = wfin (q.1.map tl, tl q.2)
  | (ws, u) => by
    show (if u.length = 0 then ws else ws ++ [u]).map tl = (if tl u = [] then ws.map tl else ws.map tl ++ [tl u])
    by_cases hu : u.length = 0
    · rw [if_pos hu, if_pos ((len0_tl u).mp hu)]
    · rw [if_neg hu, if_neg (fun z => hu ((len0_tl u).mpr z)), List.map_append] <;> rfl
theorem words_tl (x : Str) : (Txt.words x).map tl = wfin ((tl x).foldl wstep ([], [])) := by
  rw [KWd.words_scan]
  exact (fin_tl (KWd.scan x)).trans (congrArg wfin (scan_tl (tl x) ([], Str.empty)))
/-- a run of signs that are no blanks -/
theorem wfold_word : ∀ (p : List Nat) (ws : List (List Nat)) (u : List Nat), (∀ c ∈ p, Unicode.isSpace c = false) → p.foldl wstep (ws, u) = (ws, u ++ p)
  | [], ws, u, _ => by rw [List.append_nil] <;> rfl
  | c :: r, ws, u, h => by
    have hc := h c (List.mem_cons_self ..)
    rw [List.foldl_cons]
    have e : wstep (ws, u) c = (ws, u ++ [c]) := if_neg (by rw [hc]; exact Bool.false_ne_true)
    rw [e, wfold_word r ws (u ++ [c]) fun d hd => h d (List.mem_cons_of_mem _ hd), List.append_assoc] <;> rfl
theorem isSpace_plain {c : Nat} (h1 : 33 ≤ c) (h2 : c ≤ 126) : Unicode.isSpace c = false := PySem.W.KWk.nosp h1 h2
/-- words joined by one blank -/
theorem wfold_join : ∀ (ps : List (List Nat)) (ws : List (List Nat)), ps ≠ [] → (∀ p ∈ ps, p ≠ [] ∧ ∀ c ∈ p, Unicode.isSpace c = false) → wfin ((joinL [32] ps).foldl wstep (ws, [])) = ws ++ ps
  | [], _, h, _ => absurd rfl h
  | [p], ws, _, h => by
    obtain ⟨h1, h2⟩ := h p (List.mem_singleton.mpr rfl)
    show wfin (p.foldl wstep (ws, [])) = _
    rw [wfold_word p ws [] h2, List.nil_append]
    exact if_neg h1
  | p :: q :: r, ws, _, h => by
    obtain ⟨h1, h2⟩ := h p (List.mem_cons_self ..)
    show wfin ((p ++ ([32] ++ joinL [32] (q :: r))).foldl wstep (ws, [])) = _
    rw [List.foldl_append, wfold_word p ws [] h2, List.nil_append, List.foldl_append]
    have e : [32].foldl wstep (ws, p) = (ws ++ [p], []) := by
      have hs : Unicode.isSpace 32 = true := by decide +kernel
      have a : wstep (ws, p) 32 = (if p = [] then (ws, p) else (ws ++ [p], [])) := if_pos hs
      exact a.trans (if_neg h1)
    rw [e, wfold_join (q :: r) (ws ++ [p]) (by simp) fun z hz => h z (List.mem_cons_of_mem _ hz), List.append_assoc] <;> rfl
end TL
end 

namespace L2
open PySem PySem.Spec PyProof.Rows

theorem notLong {n : Nat} (h : n ≤ 16777216) : Builtin.Str.tooLong n = false := by
  have e : (2 : Nat) ^ 24 = 16777216 := by decide
  unfold Builtin.Str.tooLong sizeLine
  exact decide_eq_false (by omega)

/-- a list of texts, of numbered texts -/
theorem vals_strs : ∀ l : List (Str × Tok), Vals ((l.map (·.1)).map V.str) (strValues l)
  | [] => .nil
  | p :: r => .cons ⟨p.2, rfl⟩ (vals_strs r)
theorem strs_of_vals : ∀ {ys : List Str} {us : List Value}, Vals (ys.map V.str) us → StrsAre us ys
  | [], _, .nil => .nil
  | y :: ys, _, .cons r t => by
    obtain ⟨k, rfl⟩ := r
    exact .cons y k (strs_of_vals t)

/-- a new list of texts, tracked -/
def rNewStrs (ys : List Str) : Hp → VK → Prop := fun H Q => ∀ p, H p = none → Q (.ref p) (upd H p (.lst (ys.map V.str)))

section
variable {X : Cx} {pins : List (Addr × Obj)} {σ : St} {H : Hp} {s : Shared} {Q : VK}
theorem laid_strs {l : List (Str × Tok)} {ys : List Str} {k : Nat} (I : Inv X pins σ H s) (e : l.map (·.1) = ys) (hz : ys.length ≤ sizeLine) (h : rNewStrs ys H Q) :
    EP X pins σ Q (.ref s.heap.objs.size) { s with toks := k, heap := s.heap.push { cls := .type "list", data := .seq (strValues l).toArray } } := by
  have hp := I.hok.fresh (Nat.le_refl _)
  refine ⟨.ref s.heap.objs.size, upd H s.heap.objs.size (.lst (ys.map V.str)), I.laid (fun b u q => Heap.get?_push_of_some _ q) (Nat.le_refl _) ⟨by rw [List.length_map]; exact hz, strValues l, _, ?_, Heap.get?_push_size _ rfl⟩, rfl, h _ hp⟩
  rw [← e]
  exact vals_strs l
theorem laid_parts {x y z : Str} {t u v : Tok} {k : Nat} (I : Inv X pins σ H s) (h : ∀ p, H p = none → Q (.ref p) (upd H p (.tup [.str x, .str y, .str z]))) :
    EP X pins σ Q (.ref s.heap.objs.size) { s with toks := k, heap := s.heap.push { cls := .type "tuple", data := .seq [Value.str x t, .str y u, .str z v].toArray } } := by
  have hp := I.hok.fresh (Nat.le_refl _)
  exact ⟨.ref s.heap.objs.size, upd H s.heap.objs.size (.tup [.str x, .str y, .str z]), I.laid (fun b u q => Heap.get?_push_of_some _ q) (Nat.le_refl _)
    ⟨by show 3 ≤ sizeLine; decide, [Value.str x t, .str y u, .str z v], .cons ⟨t, rfl⟩ (.cons ⟨u, rfl⟩ (.cons ⟨v, rfl⟩ .nil)), _, Heap.get?_push_size _ rfl, rfl, _, rfl⟩, rfl, h _ hp⟩
end

section
variable {X : Cx}

/-- x.split(sep) -/
theorem mt_split : MtR X "str.split" (fun x xs H Q => ∃ a b, x = .str a ∧ xs = [.str b] ∧ (b.length == 0) = false ∧ a.length + 2 ≤ sizeLine ∧ rNewStrs (Txt.split a b) H Q) := by
  intro pins s σ H x xs v us Q I rx rs h
  obtain ⟨a, b, rfl, rfl, hb, hz, h⟩ := h
  obtain ⟨t, rfl⟩ := rx
  cases rs with
  | cons r1 rs =>
    cases rs
    obtain ⟨u, rfl⟩ := r1
    have hl : (Txt.split a b).length ≤ sizeLine := Nat.le_trans (PyProof.Rows.split_le a b) hz
    have hn : (Builtin.Str.partsBetween a (Builtin.Str.occurrences a b 0 a.length (a.length + 1)) b.length).length ≤ sizeLine := by
      have e1 := StrLaws.occ_length_le a b 0 a.length (a.length + 1)
      rw [length_partsBetween]; omega
    cases h1 : (decide (a.length < b.length) || decide (Builtin.Str.strKind a < Builtin.Str.strKind b))
    · cases hf : (Builtin.Str.occurrences a b 0 a.length (a.length + 1)).isEmpty
      · refine call_meets F.slot_str_split (typeIs_str _ _ _) F.entry_str_split (F.args_str_split_2 _ _) (meets_str_split_sep a b t u h1 hb hf (by omega) hn) ?_
        show EP X pins σ Q (.ref s.heap.objs.size) { s with toks := _, heap := s.heap.push { cls := .type "list", data := .seq (strsFrom s.toks (Builtin.Str.partsBetween a (Builtin.Str.occurrences a b 0 a.length (a.length + 1)) b.length)).toArray } }
        rw [strsFrom_eq]
        exact laid_strs (ys := Txt.split a b) I ((numbered_texts _ _).trans ((if_neg (ne_true_of_eq_false h1)).trans (if_neg (ne_true_of_eq_false hf))).symm) hl h
      · refine call_meets F.slot_str_split (typeIs_str _ _ _) F.entry_str_split (F.args_str_split_2 _ _) (meets_str_split_not_found a b t u h1 hb hf) ?_
        exact laid_strs (l := [(a, t)]) (ys := Txt.split a b) (k := s.toks) I ((if_neg (ne_true_of_eq_false h1)).trans (if_pos hf)).symm hl h
    · refine call_meets F.slot_str_split (typeIs_str _ _ _) F.entry_str_split (F.args_str_split_2 _ _) (meets_str_split_cannot_occur a b t u h1) ?_
      exact laid_strs (l := [(a, t)]) (ys := Txt.split a b) (k := s.toks) I (if_pos h1).symm hl h

theorem words_le (x : Str) : (Txt.words x).length ≤ x.length + 1 := by
  have e1 := StrLaws.words_weight x
  omega
/-- x.split() -/
theorem mt_words : MtR X "str.split" (fun x xs H Q => ∃ a, x = .str a ∧ xs = [] ∧ a.length + 2 ≤ sizeLine ∧ rNewStrs (Txt.words a) H Q) := by
  intro pins s σ H x xs v us Q I rx rs h
  obtain ⟨a, rfl, rfl, hz, h⟩ := h
  obtain ⟨t, rfl⟩ := rx
  cases rs
  have hl : (Txt.words a).length ≤ sizeLine := Nat.le_trans (words_le a) (by omega)
  have hn : (Builtin.Str.spaceWords a (a.length + 1)).length ≤ sizeLine := by
    have e1 := (StrLaws.sw_weight a).1
    have e2 := StrLaws.len_le_wsum (Builtin.Str.spaceWords a (a.length + 1))
    omega
  refine call_meets F.slot_str_split (typeIs_str _ _ _) F.entry_str_split (F.args_str_split_1 _) (meets_str_split_space a t (by omega) hn) ?_
  cases hw : Builtin.Str.spaceWords a (a.length + 1) == [(0, a.length)]
  · simp only [Bool.false_eq_true, if_false]
    rw [strsFrom_eq]
    exact laid_strs (ys := Txt.words a) I ((numbered_texts _ _).trans (if_neg (ne_true_of_eq_false hw)).symm) hl h
  · simp only [if_true]
    exact laid_strs (l := [(a, t)]) (ys := Txt.words a) (k := s.toks) I (if_pos hw).symm hl h

/-- x.partition(sep) -/
theorem mt_partition : MtR X "str.partition" (fun x xs H Q => ∃ a b, x = .str a ∧ xs = [.str b] ∧ (b.length == 0) = false ∧ a.length ≤ sizeLine ∧
    ∀ p, H p = none → Q (.ref p) (upd H p (.tup [.str (Txt.partition a b).1, .str (Txt.partition a b).2.1, .str (Txt.partition a b).2.2]))) := by
  intro pins s σ H x xs v us Q I rx rs h
  obtain ⟨a, b, rfl, rfl, hb, hz, h⟩ := h
  obtain ⟨t, rfl⟩ := rx
  cases rs with
  | cons r1 rs =>
    cases rs
    obtain ⟨u, rfl⟩ := r1
    refine call_meets F.slot_str_partition (typeIs_str _ _ _) F.entry_str_partition (F.args_str_partition_2 _ _) (meets_str_partition a b t u hb hz) ?_
    unfold Txt.partition at h
    revert h
    cases Builtin.Str.occurrences a b 0 a.length 1 with
    | nil => intro h; exact laid_parts I h
    | cons i r => intro h; exact laid_parts I h

/-- sep.join(a list | a tuple of texts) -/
theorem mt_join : MtR X "str.join" (fun x xs H Q => ∃ a p, ∃ ys : List Str, x = .str a ∧ xs = [.ref p] ∧ (SqL X.K H p (ys.map V.str) ∨ SqT X.K H p (ys.map V.str)) ∧
    (ys.map (·.length)).sum + ys.length * a.length ≤ 16777216 ∧ Q (.str (Txt.join a ys)) H) := by
  intro pins s σ H x xs v us Q I rx rs h
  obtain ⟨a, p, ys, rfl, rfl, hp, hz, h⟩ := h
  obtain ⟨t, rfl⟩ := rx
  cases rs with
  | cons r1 rs =>
    cases rs
    cases r1
    rcases hp with hp | hp
    · obtain ⟨its, r, ⟨o, n, ho, hc, _, hd⟩, _⟩ := I.list hp
      exact PyProof.Rows.join_list (items := its.toArray) ⟨o, ho, hc, n, hd⟩ (by rw [List.toList_toArray]; exact strs_of_vals r) hz fun t' k => ⟨.str _, H, I.tok k, ⟨t', rfl⟩, h⟩
    · obtain ⟨its, r, ht, _⟩ := I.tuple hp
      exact PyProof.Rows.join_tuple (items := its.toArray) ht (by rw [List.toList_toArray]; exact strs_of_vals r) hz fun t' k => ⟨.str _, H, I.tok k, ⟨t', rfl⟩, h⟩

/-! ### of a text alone -/
theorem mt0 {id : String} {C : Str → Prop} {g : Str → V} (rule : ∀ (a : Str) (t : Tok) (s : Shared) (Q : Value → Shared → Prop), C a → (∀ (u : Value) (k : Nat), RelV (g a) u → Q u { s with toks := k }) →
    wpAny (model X.prog X.w) X.A (call (.builtin id) [.str a t]) Q X.xe s) : MtR X id (fun x xs H Q => ∃ a, x = .str a ∧ xs = [] ∧ C a ∧ Q (g a) H) := by
  intro pins s σ H x xs v us Q I rx rs h
  obtain ⟨a, rfl, rfl, hc, h⟩ := h
  obtain ⟨t, rfl⟩ := rx
  cases rs
  exact rule a t s _ hc fun u k r => ⟨g a, H, I.tok k, r, h⟩
theorem mt_strip : MtR X "str.strip" (fun x xs H Q => ∃ a, x = .str a ∧ xs = [] ∧ a.length ≤ sizeLine ∧ Q (.str (Txt.strip a)) H) :=
  mt0 (C := fun a => a.length ≤ sizeLine) (g := fun a => .str (Txt.strip a)) fun _ _ _ _ hc h => PySem.SC.strip (fun t' k => h _ k ⟨t', rfl⟩) hc
theorem mt_lstrip : MtR X "str.lstrip" (fun x xs H Q => ∃ a, x = .str a ∧ xs = [] ∧ a.length ≤ sizeLine ∧ Q (.str (Txt.lstrip a)) H) :=
  mt0 (C := fun a => a.length ≤ sizeLine) (g := fun a => .str (Txt.lstrip a)) fun _ _ _ _ hc h => PySem.SC.lstrip (fun t' k => h _ k ⟨t', rfl⟩) hc
theorem mt_rstrip : MtR X "str.rstrip" (fun x xs H Q => ∃ a, x = .str a ∧ xs = [] ∧ a.length ≤ sizeLine ∧ Q (.str (Txt.rstrip a)) H) :=
  mt0 (C := fun a => a.length ≤ sizeLine) (g := fun a => .str (Txt.rstrip a)) fun _ _ _ _ hc h => PySem.SC.rstrip (fun t' k => h _ k ⟨t', rfl⟩) hc
theorem mt_lower : MtR X "str.lower" (fun x xs H Q => ∃ a, x = .str a ∧ xs = [] ∧ a.length ≤ 5592405 ∧ Q (.str (Txt.lower a)) H) :=
  mt0 (C := fun a => a.length ≤ 5592405) (g := fun a => .str (Txt.lower a)) fun a _ s _ hc h =>
    PySem.SC.lower (notLong (by have h1 : a.length ≤ 5592405 := hc; have := PyProof.Rows.len_lower a; omega)) (h _ (s.toks + 1) ⟨_, rfl⟩)
theorem mt_upper : MtR X "str.upper" (fun x xs H Q => ∃ a, x = .str a ∧ xs = [] ∧ a.length ≤ 5592405 ∧ Q (.str (Txt.upper a)) H) :=
  mt0 (C := fun a => a.length ≤ 5592405) (g := fun a => .str (Txt.upper a)) fun a _ s _ hc h =>
    PySem.SC.upper (notLong (by have h1 : a.length ≤ 5592405 := hc; have := PyProof.Rows.len_upper a; omega)) (h _ (s.toks + 1) ⟨_, rfl⟩)
theorem mt_isdigit : MtR X "str.isdigit" (fun x xs H Q => ∃ a, x = .str a ∧ xs = [] ∧ True ∧ Q (.bl (Txt.isdigit a)) H) :=
  mt0 (C := fun _ => True) (g := fun a => .bl (Txt.isdigit a)) fun _ _ s _ _ h => PySem.SC.isdigit (h _ s.toks rfl)
theorem mt_isalpha : MtR X "str.isalpha" (fun x xs H Q => ∃ a, x = .str a ∧ xs = [] ∧ True ∧ Q (.bl (Txt.isalpha a)) H) :=
  mt0 (C := fun _ => True) (g := fun a => .bl (Txt.isalpha a)) fun _ _ s _ _ h => PySem.SC.isalpha (h _ s.toks rfl)
theorem mt_isalnum : MtR X "str.isalnum" (fun x xs H Q => ∃ a, x = .str a ∧ xs = [] ∧ True ∧ Q (.bl (Txt.isalnum a)) H) :=
  mt0 (C := fun _ => True) (g := fun a => .bl (Txt.isalnum a)) fun _ _ s _ _ h => PySem.SC.isalnum (h _ s.toks rfl)
theorem mt_isspace : MtR X "str.isspace" (fun x xs H Q => ∃ a, x = .str a ∧ xs = [] ∧ True ∧ Q (.bl (Txt.isspace a)) H) :=
  mt0 (C := fun _ => True) (g := fun a => .bl (Txt.isspace a)) fun _ _ s _ _ h => PySem.SC.isspace (h _ s.toks rfl)

/-! ### of a text and a text -/
theorem mt1 {id : String} {g : Str → Str → V} (rule : ∀ (a b : Str) (t u : Tok) (s : Shared) (Q : Value → Shared → Prop), (∀ (v : Value) (k : Nat), RelV (g a b) v → Q v { s with toks := k }) →
    wpAny (model X.prog X.w) X.A (call (.builtin id) [.str a t, .str b u]) Q X.xe s) : MtR X id (fun x xs H Q => ∃ a b, x = .str a ∧ xs = [.str b] ∧ Q (g a b) H) := by
  intro pins s σ H x xs v us Q I rx rs h
  obtain ⟨a, b, rfl, rfl, h⟩ := h
  obtain ⟨t, rfl⟩ := rx
  cases rs with
  | cons r1 rs =>
    cases rs
    obtain ⟨u, rfl⟩ := r1
    exact rule a b t u s _ fun v k r => ⟨g a b, H, I.tok k, r, h⟩
theorem mt_startswith : MtR X "str.startswith" (fun x xs H Q => ∃ a b, x = .str a ∧ xs = [.str b] ∧ Q (.bl (Txt.startswith a b)) H) :=
  mt1 (g := fun a b => .bl (Txt.startswith a b)) fun _ _ _ _ s _ h => PySem.SC.startswith (h _ s.toks rfl)
theorem mt_endswith : MtR X "str.endswith" (fun x xs H Q => ∃ a b, x = .str a ∧ xs = [.str b] ∧ Q (.bl (Txt.endswith a b)) H) :=
  mt1 (g := fun a b => .bl (Txt.endswith a b)) fun _ _ _ _ s _ h => PySem.SC.endswith (h _ s.toks rfl)
theorem mt_find : MtR X "str.find" (fun x xs H Q => ∃ a b, x = .str a ∧ xs = [.str b] ∧ Q (.int (Txt.find a b)) H) :=
  mt1 (g := fun a b => .int (Txt.find a b)) fun _ _ _ _ s _ h => PySem.SC.find (h _ (s.toks + 1) ⟨_, rfl⟩)
theorem mt_count : MtR X "str.count" (fun x xs H Q => ∃ a b, x = .str a ∧ xs = [.str b] ∧ Q (.int (Txt.count a b)) H) :=
  mt1 (g := fun a b => .int (Txt.count a b)) fun _ _ _ _ s _ h => PySem.SC.count (h _ (s.toks + 1) ⟨_, rfl⟩)

/-- int(text) -/
theorem call_int_str : CallR X (.type "int") (fun xs H Q => ∃ a n, xs = [.str a] ∧ PySem.intText? a = some n ∧ a.length ≤ 640 ∧ Q (.int n) H) := by
  intro pins s σ H xs us Q I rs h
  obtain ⟨a, n, rfl, hn, hl, h⟩ := h
  cases rs with
  | cons r1 rs =>
    cases rs
    obtain ⟨t, rfl⟩ := r1
    exact PySem.W.KIN.call_text hn hl ⟨.int n, H, I.tok _, ⟨_, rfl⟩, h⟩
end

section
variable {X : Cx} {o e : Expr} {to te : TE}
def tM0 (r : V → List V → Hp → VK → Prop) (to : TE) : TE := fun σ H Q => to σ H fun x H1 => (∃ a, x = .str a) ∧ r x [] H1 Q
def tM1 (r : V → List V → Hp → VK → Prop) (to te : TE) : TE := fun σ H Q => to σ H fun x H1 => (∃ a, x = .str a) ∧ te σ H1 fun y H2 => r x [y] H2 Q
theorem pe_m0 {id : String} {name : Str} {apos pos : Pos} {r : V → List V → Hp → VK → Prop} (slot : Slot "str" name id) (ty : typeOf (.builtin id) = pure (.type "method_descriptor")) (rule : MtR X id r) (ho : PE X o to)
    (hbase : attributeBase o name X.env (eval o X.env) = eval o X.env := by rfl) (hline : (apos.endLine == pos.line) = true := by rfl) : PE X (.Call (.Attribute o name apos) [] [] pos) (tM0 r to) := by
  intro pins s σ H Q I h
  refine PySem.Call_method0 hbase hline (thn (ho pins s σ H _ I h) fun v s1 ⟨x, H1, I1, r1, q1⟩ => ?_)
  obtain ⟨⟨a, rfl⟩, q1⟩ := q1
  obtain ⟨t, rfl⟩ := _root_.id r1
  exact ⟨"str", _, F.plainAttrs_str, slot, ty, typeIs_str _ _ _, (fun _ e => nomatch e), Calls.callWith_builtin rfl (PySem.evalArgs_none (rule pins s1 σ H1 _ [] _ [] Q I1 r1 .nil q1))⟩
theorem pe_m1 {id : String} {name : Str} {apos pos : Pos} {r : V → List V → Hp → VK → Prop} (slot : Slot "str" name id) (ty : typeOf (.builtin id) = pure (.type "method_descriptor")) (rule : MtR X id r) (ho : PE X o to) (he : PE X e te)
    (hs : starEach [e] X.env = [(false, eval e X.env)] := by rfl) (hbase : attributeBase o name X.env (eval o X.env) = eval o X.env := by rfl) (hline : (apos.endLine == pos.line) = true := by rfl) :
    PE X (.Call (.Attribute o name apos) [e] [] pos) (tM1 r to te) := by
  intro pins s σ H Q I h
  refine PySem.Call_method1 hbase hs hline (thn (ho pins s σ H _ I h) fun v s1 ⟨x, H1, I1, r1, q1⟩ => ?_)
  obtain ⟨⟨a, rfl⟩, q1⟩ := q1
  obtain ⟨t, rfl⟩ := _root_.id r1
  refine ⟨"str", _, F.plainAttrs_str, slot, ty, typeIs_str _ _ _, (fun _ e => nomatch e), Calls.callWith_builtin rfl (Calls.evalArgs_plain (Calls.spliced_cons ?_))⟩
  exact thn (he pins s1 σ H1 _ I1 q1) fun u s2 ⟨y, H2, I2, r2, q2⟩ => Calls.spliced_nil (rule pins s2 σ H2 _ [y] _ [u] Q I2 r1 (.cons r2 .nil) q2)

theorem pe_split {apos pos : Pos} (ho : PE X o to) (he : PE X e te) (hs : starEach [e] X.env = [(false, eval e X.env)] := by rfl) (hbase : attributeBase o "split" X.env (eval o X.env) = eval o X.env := by rfl) (hline : (apos.endLine == pos.line) = true := by rfl) :
    PE X (.Call (.Attribute o "split" apos) [e] [] pos) (tM1 (fun x xs H Q => ∃ a b, x = .str a ∧ xs = [.str b] ∧ (b.length == 0) = false ∧ a.length + 2 ≤ sizeLine ∧ rNewStrs (Txt.split a b) H Q) to te) :=
  pe_m1 F.slot_str_split F.type_str_split mt_split ho he hs hbase hline
theorem pe_words {apos pos : Pos} (ho : PE X o to) (hbase : attributeBase o "split" X.env (eval o X.env) = eval o X.env := by rfl) (hline : (apos.endLine == pos.line) = true := by rfl) :
    PE X (.Call (.Attribute o "split" apos) [] [] pos) (tM0 (fun x xs H Q => ∃ a, x = .str a ∧ xs = [] ∧ a.length + 2 ≤ sizeLine ∧ rNewStrs (Txt.words a) H Q) to) :=
  pe_m0 F.slot_str_split F.type_str_split mt_words ho hbase hline
theorem pe_partition {apos pos : Pos} (ho : PE X o to) (he : PE X e te) (hs : starEach [e] X.env = [(false, eval e X.env)] := by rfl) (hbase : attributeBase o "partition" X.env (eval o X.env) = eval o X.env := by rfl) (hline : (apos.endLine == pos.line) = true := by rfl) :
    PE X (.Call (.Attribute o "partition" apos) [e] [] pos) (tM1 (fun x xs H Q => ∃ a b, x = .str a ∧ xs = [.str b] ∧ (b.length == 0) = false ∧ a.length ≤ sizeLine ∧
      ∀ p, H p = none → Q (.ref p) (upd H p (.tup [.str (Txt.partition a b).1, .str (Txt.partition a b).2.1, .str (Txt.partition a b).2.2]))) to te) :=
  pe_m1 F.slot_str_partition F.type_str_partition mt_partition ho he hs hbase hline
theorem pe_join {apos pos : Pos} (ho : PE X o to) (he : PE X e te) (hs : starEach [e] X.env = [(false, eval e X.env)] := by rfl) (hbase : attributeBase o "join" X.env (eval o X.env) = eval o X.env := by rfl) (hline : (apos.endLine == pos.line) = true := by rfl) :
    PE X (.Call (.Attribute o "join" apos) [e] [] pos) (tM1 (fun x xs H Q => ∃ a p, ∃ ys : List Str, x = .str a ∧ xs = [.ref p] ∧ (SqL X.K H p (ys.map V.str) ∨ SqT X.K H p (ys.map V.str)) ∧
      (ys.map (·.length)).sum + ys.length * a.length ≤ 16777216 ∧ Q (.str (Txt.join a ys)) H) to te) :=
  pe_m1 F.slot_str_join F.type_str_join mt_join ho he hs hbase hline
theorem pe_strip {apos pos : Pos} (ho : PE X o to) (hbase : attributeBase o "strip" X.env (eval o X.env) = eval o X.env := by rfl) (hline : (apos.endLine == pos.line) = true := by rfl) :
    PE X (.Call (.Attribute o "strip" apos) [] [] pos) (tM0 (fun x xs H Q => ∃ a, x = .str a ∧ xs = [] ∧ a.length ≤ sizeLine ∧ Q (.str (Txt.strip a)) H) to) :=
  pe_m0 F.slot_str_strip F.type_str_strip mt_strip ho hbase hline
theorem pe_lower {apos pos : Pos} (ho : PE X o to) (hbase : attributeBase o "lower" X.env (eval o X.env) = eval o X.env := by rfl) (hline : (apos.endLine == pos.line) = true := by rfl) :
    PE X (.Call (.Attribute o "lower" apos) [] [] pos) (tM0 (fun x xs H Q => ∃ a, x = .str a ∧ xs = [] ∧ a.length ≤ 5592405 ∧ Q (.str (Txt.lower a)) H) to) :=
  pe_m0 F.slot_str_lower F.type_str_lower mt_lower ho hbase hline
theorem pe_upper {apos pos : Pos} (ho : PE X o to) (hbase : attributeBase o "upper" X.env (eval o X.env) = eval o X.env := by rfl) (hline : (apos.endLine == pos.line) = true := by rfl) :
    PE X (.Call (.Attribute o "upper" apos) [] [] pos) (tM0 (fun x xs H Q => ∃ a, x = .str a ∧ xs = [] ∧ a.length ≤ 5592405 ∧ Q (.str (Txt.upper a)) H) to) :=
  pe_m0 F.slot_str_upper F.type_str_upper mt_upper ho hbase hline
end
end L2

namespace L2
open PySem PySem.Spec PyProof.Rows

section
variable {X : Cx}
theorem op_le_str : OpR X (compareOp .LtE) (fun x y H Q => ∃ i j, x = .str i ∧ y = .str j ∧ Q (.bl (!decide (j.cps.toList < i.cps.toList))) H) := by
  intro pins s σ H x y v u Q I rx ry h
  obtain ⟨i, j, rfl, rfl, q⟩ := h
  obtain ⟨t, rfl⟩ := rx
  obtain ⟨t', rfl⟩ := ry
  exact PySem.P.le_str (fin_bl I q rfl)
theorem op_gt_str : OpR X (compareOp .Gt) (fun x y H Q => ∃ i j, x = .str i ∧ y = .str j ∧ Q (.bl (decide (j.cps.toList < i.cps.toList))) H) := by
  intro pins s σ H x y v u Q I rx ry h
  obtain ⟨i, j, rfl, rfl, q⟩ := h
  obtain ⟨t, rfl⟩ := rx
  obtain ⟨t', rfl⟩ := ry
  exact PySem.P.gt_str (fin_bl I q rfl)
theorem op_ge_str : OpR X (compareOp .GtE) (fun x y H Q => ∃ i j, x = .str i ∧ y = .str j ∧ Q (.bl (!decide (i.cps.toList < j.cps.toList))) H) := by
  intro pins s σ H x y v u Q I rx ry h
  obtain ⟨i, j, rfl, rfl, q⟩ := h
  obtain ⟨t, rfl⟩ := rx
  obtain ⟨t', rfl⟩ := ry
  exact PySem.P.ge_str (fin_bl I q rfl)
/-- one sign in a text -/
theorem op_in_sign : OpR X (compareOp .In) (fun x y H Q => ∃ (c : Nat) (z : Str), x = .str ⟨#[c]⟩ ∧ y = .str z ∧ Q (.bl (decide (c ∈ z.cps.toList))) H) := by
  intro pins s σ H x y v u Q I rx ry h
  obtain ⟨c, z, rfl, rfl, q⟩ := h
  obtain ⟨t, rfl⟩ := rx
  obtain ⟨t', rfl⟩ := ry
  exact PyProof.Rows.in_str (fin_bl I q (PySem.StrLaws.found_one z c).symm)
theorem op_notIn_sign : OpR X (compareOp .NotIn) (fun x y H Q => ∃ (c : Nat) (z : Str), x = .str ⟨#[c]⟩ ∧ y = .str z ∧ Q (.bl (!decide (c ∈ z.cps.toList))) H) := by
  intro pins s σ H x y v u Q I rx ry h
  obtain ⟨c, z, rfl, rfl, q⟩ := h
  obtain ⟨t, rfl⟩ := rx
  obtain ⟨t', rfl⟩ := ry
  exact PyProof.Rows.notIn_str (fin_bl I q (congrArg Bool.not (PySem.StrLaws.found_one z c).symm))
end

/-! ### slices of a text -/
theorem IsPart.raw {v : Value} {o : Option Int} (p : IsPart v o) : ∃ l : Option (Int × Tok), v = partValue l ∧ l.map (·.1) = o := by
  cases p with
  | none => exact ⟨none, rfl, rfl⟩
  | int i t => exact ⟨some (i, t), rfl, rfl⟩

/-- a part, clipped, as the text's slice reckons it -/
def clipS (n d : Nat) : Option Int → Int
  | none => (d : Int)
  | some i => max 0 (min (if i < 0 then i + (n : Int) else i) (n : Int))
theorem clipS_eq (n d : Nat) (o : Option Int) : clipS n d o = ((HT.sIx n d o : Nat) : Int) := by
  cases o with
  | none => rfl
  | some v =>
    show max (0 : Int) (min (if v < 0 then v + (n : Int) else v) (n : Int)) = (((if v < 0 then (v + (n : Int)).toNat else min v.toNat n) : Nat) : Int)
    by_cases hv : v < 0
    · simp only [if_pos hv]
      omega
    · simp only [if_neg hv]
      omega
theorem sidx_clip (a b : Option Int) (n : Nat) : Builtin.Str.strSliceIndices a b 1 n = sliceRange (clipS n 0 a) (clipS n n b) 1 := by
  have h1 : ((1 : Int) > 0) = True := by simp
  cases a <;> cases b <;> first
    | rfl
    | (simp only [Builtin.Str.strSliceIndices, clipS, h1, if_true]; rfl)
    | simp [Builtin.Str.strSliceIndices, clipS]
theorem sidx (a b : Option Int) (n : Nat) : Builtin.Str.strSliceIndices a b 1 n = (List.range (HT.sIx n n b - HT.sIx n 0 a)).map (fun k => HT.sIx n 0 a + k) := by
  rw [sidx_clip, clipS_eq, clipS_eq]
  generalize HT.sIx n 0 a = p
  generalize HT.sIx n n b = q
  simp only [sliceRange, show ((1 : Int) > 0) = True from by simp, if_true]
  by_cases hlt : (p : Int) < q
  · have e3 : (((q : Int) - p + 1 - 1) / 1).toNat = q - p := by first | omega | (simp; done) | (simp; omega)
    simp only [hlt, if_true, e3]
    refine List.map_congr_left fun k _ => ?_
    omega
  · have : q - p = 0 := by omega
    simp [hlt, this]

/-- z[lo:hi] -/
def cutS (z : Str) (lo hi : Option Int) : Str :=
  ⟨((z.cps.toList.drop (HT.sIx z.length 0 lo)).take (HT.sIx z.length z.length hi - HT.sIx z.length 0 lo)).toArray⟩
theorem sliceText_cut (z : Str) (lo hi : Option Int) : PySem.StrLaws.sliceText z lo hi = cutS z lo hi := by
  have h1 : HT.sIx z.length 0 lo ≤ z.length := HT.sIx_le _ _ (Nat.zero_le _) _
  have h2 : HT.sIx z.length z.length hi ≤ z.length := HT.sIx_le _ _ (Nat.le_refl _) _
  have hp : HT.sIx z.length 0 lo ≤ max (HT.sIx z.length 0 lo) (HT.sIx z.length z.length hi) := Nat.le_max_left _ _
  have hq : max (HT.sIx z.length 0 lo) (HT.sIx z.length z.length hi) ≤ z.length := Nat.max_le.mpr ⟨h1, h2⟩
  have hd : max (HT.sIx z.length 0 lo) (HT.sIx z.length z.length hi) - HT.sIx z.length 0 lo = HT.sIx z.length z.length hi - HT.sIx z.length 0 lo := by omega
  have e : Builtin.Str.strSliceIndices lo hi 1 z.length =
      Builtin.Str.strSliceIndices (some ((HT.sIx z.length 0 lo : Nat) : Int)) (some ((max (HT.sIx z.length 0 lo) (HT.sIx z.length z.length hi) : Nat) : Int)) 1 z.length := by
    rw [PySem.StrLaws.strSliceIndices_plain hp hq, hd, sidx]
  have e2 : PySem.StrLaws.sliceText z lo hi =
      PySem.StrLaws.sliceText z (some ((HT.sIx z.length 0 lo : Nat) : Int)) (some ((max (HT.sIx z.length 0 lo) (HT.sIx z.length z.length hi) : Nat) : Int)) := by
    unfold PySem.StrLaws.sliceText
    rw [e]
  rw [e2, PySem.StrLaws.sliceText_nat z hp hq, hd]
  rfl
theorem cutS_length (z : Str) (lo hi : Option Int) : (cutS z lo hi).length ≤ z.length := by
  show (((z.cps.toList.drop (HT.sIx z.length 0 lo)).take (HT.sIx z.length z.length hi - HT.sIx z.length 0 lo)).toArray).size ≤ z.cps.size
  rw [List.size_toArray, List.length_take, List.length_drop, Array.length_toList]
  omega
def rSlS : V → Option Int → Option Int → Hp → VK → Prop := fun x lo hi H Q => ∃ z, x = .str z ∧ z.length ≤ sizeLine ∧ Q (.str (cutS z lo hi)) H
theorem sl_str {X : Cx} : SlR X rSlS := by
  intro pins s σ H x v vl vu lo hi sl Q I rx hs pl pu h
  obtain ⟨z, rfl, hz, q⟩ := h
  obtain ⟨t, rfl⟩ := rx
  obtain ⟨os, hos, hcs, hds⟩ := hs
  obtain ⟨l, rfl, rfl⟩ := IsPart.raw pl
  obtain ⟨u, rfl, rfl⟩ := IsPart.raw pu
  refine ⟨"str", _, F.slot_str_getitem.lookup, typeIs_str _ _ _, ?_⟩
  refine wpAny_getItem_str_slice (l := l) (u := u) (st := none) ⟨os, hos, hcs, hds⟩ rfl ?_
  have hl : (PySem.StrLaws.sliceText z (l.map (·.1)) (u.map (·.1))).length ≤ sizeLine := by
    rw [sliceText_cut]
    exact Nat.le_trans (cutS_length z _ _) hz
  rw [← sliceText_cut] at q
  unfold PySem.StrLaws.sliceText at q hl
  show Made.post (if ((1 : Int) == 1 && (Builtin.Str.strSliceIndices (l.map (·.1)) (u.map (·.1)) 1 z.length).length == z.length) = true then Made.val (.str z t)
    else Made.str ⟨((Builtin.Str.strSliceIndices (l.map (·.1)) (u.map (·.1)) 1 z.length).filterMap (z.cps[·]?)).toArray⟩) (EP X pins σ Q) s
  by_cases c : ((1 : Int) == 1 && (Builtin.Str.strSliceIndices (l.map (·.1)) (u.map (·.1)) 1 z.length).length == z.length) = true
  · rw [if_pos c] at q ⊢
    exact ⟨.str z, H, I, ⟨t, rfl⟩, q⟩
  · rw [if_neg c] at q hl ⊢
    exact ⟨hl, .str _, H, I.tok _, ⟨_, rfl⟩, q⟩
end L2

namespace Att
open PySem PySem.W PySem.Calls PyProof.Rows

/-! ### the script -/
theorem ints_of_wellAll {P : Params} {h : Heap} : ∀ (ns : List Int) (vs : List Value), WellAll P h vs (ns.map WData.int) → IntsAre vs ns := by
  intro ns
  induction ns with
  | nil =>
    intro vs w
    rw [List.map_nil] at w
    cases w
    exact .nil
  | cons n ns ih =>
    intro vs w
    rw [List.map_cons] at w
    cases w with
    | cons a b =>
      cases a
      exact .cons _ _ (ih _ b)

theorem script_of {l : OpenLaw} {n : Nat} (hn : l.most = some n) {P : Params} {h : Heap} {args : List WData} {vals : List Value}
    (hpre : l.row.toRowW.claim.pre args = true) (hwl : WellAll P h vals args) :
    ∃ a vs ns, vals = [Value.ref a] ∧ args = [WData.list (ns.map WData.int)] ∧ h.get? a = some { cls := .type "list", data := .seq vs.toArray } ∧ IntsAre vs ns ∧ ns.length ≤ n := by
  have hsh : WShape.hasAll [] args [.list .int] = true := (pre_splitW hpre).1
  have hc : l.pre.holds [] { args := args } = true := (pre_splitW hpre).2
  obtain ⟨d, r, rfl, h1, h2⟩ := hasAllW_cons hsh
  obtain rfl := hasAllW_nil h2
  obtain ⟨xs, rfl, h3⟩ := hasW_list h1
  obtain ⟨ns, rfl⟩ := items_int h3
  have hlen : ns.length ≤ n := by
    unfold OpenLaw.pre at hc
    have h4 : (WTm.not (.lt (.lit (.int (n : Int))) (.len (.arg 0)))).holds [] { args := [.list (ns.map .int)] } = true := by
      have h4 := (holds_andW hc).1
      rw [hn] at h4
      exact h4
    have h5 := condW_of h4 (w_not (w_lt w_lit (w_len_list (w_arg rfl))))
    rw [List.length_map] at h5
    refine Nat.le_of_not_lt fun q => ?_
    have q' : (n : Int) < ((ns.length : Nat) : Int) := by omega
    first
      | (rw [decide_eq_true q'] at h5; exact absurd h5 (by decide))
      | (simp at h5; omega)
  cases hwl with
  | cons w1 w2 =>
    cases w2
    cases w1 with
    | list ho hall => exact ⟨_, _, ns, rfl, rfl, ho, ints_of_wellAll ns _ hall, hlen⟩

theorem post_true (l : OpenLaw) (args : List WData) : l.row.toRowW.claim.post args (.bool true) args = true :=
  postW_of (r := l.row.toRowW) (X := (true == true))
    (show WShape.has [] (.bool true) .bool = true by first | rfl | decide | simp [WShape.has, WShape.arms, WShape.armsAll])
    (show (WTm.eq .res (.lit (.bool true))).value [] { args := args, res := some (.bool true), after := args } = some (.bool (true == true)) from w_eq_bool (w_res rfl) w_lit) rfl

/-! ### the attachment: holds_open's last premise (the goal 'hc' behind k_head) from a wpAny of the law's body -/
theorem attach {l : OpenLaw} {n : Nat} {q : Program} {loose : List Str} {XP : (Str → Option Value) → Heap → Prop} {YP : World → Heap → Prop} {d : DefRec} {x : Str}
    (hn : l.most = some n) (hdf : d.params.defaults = [])
    (hbind : ∀ pm cd doc v : Value, bindArgs (docDef d.name d.params d.body d.scope pm cd doc) ⟨[v], []⟩ = pure [(x, v)])
    (hx : d.scope.names.lookup x = some .local ∨ d.scope.names.lookup x = some .cell)
    (hk : d.scope.kind = .function) (hco : d.scope.isCoroutine = false) (hgen : d.scope.isGenerator = false)
    (body : ∀ (w : World) (s₀ s₁ s : Shared) (mg mb : Str → Option Value) (fa : Addr) (o : Obj) (pm cd doc : Value) (a : Addr) (vs : List Value) (ns : List Int),
      Ground q loose [] XP w s₀ mg mb s₁.heap → YP w s₁.heap →
      s₁.heap.get? fa = some o → o.data = .func (docDef d.name d.params d.body d.scope pm cd doc) → s₁.heap.CodeRec cd d.name → mg d.name = some (.ref fa) →
      s₁.heap.get? a = some { cls := .type "list", data := .seq vs.toArray } → IntsAre vs ns → ns.length ≤ n →
      s.gens = #[] → s.os = s₁.os →
      Fr s₁.heap s₁.heap.objs.size s.heap (bindL (envOfC d.name d.scope s₁.heap.objs.size fa cd).kindOf [(x, .ref a)] fun _ => none) →
      Cl s₁.heap.objs.size (cellsFrom (s₁.heap.objs.size + 1) d.scope.names []) s.heap (bindC (envOfC d.name d.scope s₁.heap.objs.size fa cd).kindOf [(x, .ref a)] fun _ => none) →
      wpAny (model l.prog w) (callerA.deeper (envOfC d.name d.scope s₁.heap.objs.size fa cd)) (execs d.body (envOfC d.name d.scope s₁.heap.objs.size fa cd))
        (fun f s' => f = .ret (.bool true) ∧ OldK s₁.heap s'.heap ∧ s'.os = s₁.os ∧ AllBare s'.gens) (fun _ _ => False) s) :
    WalkO q loose XP YP l.row.toRowW d [] (fun f vs => PySem.call f vs) := by
  intro w s₀ s₁ mg mb G Y fa o pm cd doc dV kV ho hd hcd hD hmg hg args vals as hpre hlay hrd hwl hlo
  obtain rfl : dV = .none := Dflts.none hD hdf
  obtain rfl : kV = .none := Dflts.noKw hD
  obtain ⟨a, vs, ns, rfl, rfl, hobj, hints, hlen⟩ := script_of hn hpre hwl
  refine enter_call ?_
  refine call_cells_ret (o := o) (by rw [depth_caller]; decide) ho (fd_plain hd) G.T.nolimit hcd (hbind pm cd doc (.ref a)) (fun y hy => ?_) (fun h₁ tk F X => ?_) hco hgen hk
  · obtain rfl : y = (x, Value.ref a) := List.mem_singleton.mp hy
    rcases hx with e | e
    · exact .inl e
    · exact .inr ⟨e, cellsFrom_some _ _ _ (.inl e)⟩
  · refine wpAny_mono (body w s₀ s₁ { s₁ with heap := h₁, toks := tk } mg mb fa o pm cd doc a vs ns G Y ho (fd_plain hd) hcd hmg hobj hints hlen hg rfl F X) (fun f s' hq => ?_) (fun _ _ hq => hq)
    obtain ⟨rfl, h2, h3, h4⟩ := hq
    exact ⟨.inl ⟨.bool true, .bool true, [], rfl, fun _ => rfl, .bool true, post_true l _, fun _ => ⟨List.Pairwise.nil, fun _ hm => (nomatch hm)⟩⟩, h2, h3, h4⟩

/-- the same from a codeAny of the CALL (for a layer whose function contracts speak of calls) -/
theorem attach_call {l : OpenLaw} {n : Nat} {q : Program} {loose : List Str} {XP : (Str → Option Value) → Heap → Prop} {YP : World → Heap → Prop} {d : DefRec}
    (hn : l.most = some n) (hdf : d.params.defaults = [])
    (call : ∀ (w : World) (s₀ s₁ : Shared) (mg mb : Str → Option Value) (fa : Addr) (o : Obj) (pm cd doc : Value) (a : Addr) (vs : List Value) (ns : List Int),
      Ground q loose [] XP w s₀ mg mb s₁.heap → YP w s₁.heap →
      s₁.heap.get? fa = some o → o.data = .func (docDef d.name d.params d.body d.scope pm cd doc) → s₁.heap.CodeRec cd d.name → mg d.name = some (.ref fa) →
      s₁.heap.get? a = some { cls := .type "list", data := .seq vs.toArray } → IntsAre vs ns → ns.length ≤ n → s₁.gens = #[] →
      codeAny (model l.prog w) callerA (.call (.ref fa) ⟨[.ref a], []⟩) (fun r s' => r = .ok (.ret (.bool true)) ∧ OldK s₁.heap s'.heap ∧ s'.os = s₁.os ∧ AllBare s'.gens) s₁) :
    WalkO q loose XP YP l.row.toRowW d [] (fun f vs => PySem.call f vs) := by
  intro w s₀ s₁ mg mb G Y fa o pm cd doc dV kV ho hd hcd hD hmg hg args vals as hpre hlay hrd hwl hlo
  obtain rfl : dV = .none := Dflts.none hD hdf
  obtain rfl : kV = .none := Dflts.noKw hD
  obtain ⟨a, vs, ns, rfl, rfl, hobj, hints, hlen⟩ := script_of hn hpre hwl
  refine enter_call (codeAny_mono (call w s₀ s₁ mg mb fa o pm cd doc a vs ns G Y ho (fd_plain hd) hcd hmg hobj hints hlen hg) fun r s' hq => ?_)
  obtain ⟨rfl, h2, h3, h4⟩ := hq
  exact ⟨.inl ⟨.bool true, .bool true, [], rfl, fun _ => rfl, .bool true, post_true l _, fun _ => ⟨List.Pairwise.nil, fun _ hm => (nomatch hm)⟩⟩, h2, h3, h4⟩

/-- the same where the top left finished generators (o_head chose holds_openN): nothing may have changed at all and no generator may be left -/
theorem attachN {l : OpenLaw} {n : Nat} {q : Program} {loose : List Str} {XP : (Str → Option Value) → Heap → Prop} {YP : World → Heap → Prop} {d : DefRec} {x : Str}
    (hn : l.most = some n) (hdf : d.params.defaults = [])
    (hbind : ∀ pm cd doc v : Value, bindArgs (docDef d.name d.params d.body d.scope pm cd doc) ⟨[v], []⟩ = pure [(x, v)])
    (hx : d.scope.names.lookup x = some .local ∨ d.scope.names.lookup x = some .cell)
    (hk : d.scope.kind = .function) (hco : d.scope.isCoroutine = false) (hgen : d.scope.isGenerator = false)
    (body : ∀ (w : World) (s₀ s₁ s : Shared) (mg mb : Str → Option Value) (fa : Addr) (o : Obj) (pm cd doc : Value) (a : Addr) (vs : List Value) (ns : List Int),
      Ground q loose [] XP w s₀ mg mb s₁.heap → YP w s₁.heap →
      s₁.heap.get? fa = some o → o.data = .func (docDef d.name d.params d.body d.scope pm cd doc) → s₁.heap.CodeRec cd d.name → mg d.name = some (.ref fa) →
      s₁.heap.get? a = some { cls := .type "list", data := .seq vs.toArray } → IntsAre vs ns → ns.length ≤ n →
      s.gens = #[] → s.os = s₁.os →
      Fr s₁.heap s₁.heap.objs.size s.heap (bindL (envOfC d.name d.scope s₁.heap.objs.size fa cd).kindOf [(x, .ref a)] fun _ => none) →
      Cl s₁.heap.objs.size (cellsFrom (s₁.heap.objs.size + 1) d.scope.names []) s.heap (bindC (envOfC d.name d.scope s₁.heap.objs.size fa cd).kindOf [(x, .ref a)] fun _ => none) →
      wpAny (model l.prog w) (callerA.deeper (envOfC d.name d.scope s₁.heap.objs.size fa cd)) (execs d.body (envOfC d.name d.scope s₁.heap.objs.size fa cd))
        (fun f s' => f = .ret (.bool true) ∧ (∀ b o, s₁.heap.get? b = some o → s'.heap.get? b = some o) ∧ s'.os = s₁.os ∧ s'.gens = #[]) (fun _ _ => False) s) :
    WalkN q loose XP YP l.row.toRowW d [] (fun f vs => PySem.call f vs) := by
  intro w s₀ s₁ mg mb G Y fa o pm cd doc dV kV ho hd hcd hD hmg hg args vals as hpre hlay hrd hwl hlo
  obtain rfl : dV = .none := Dflts.none hD hdf
  obtain rfl : kV = .none := Dflts.noKw hD
  obtain ⟨a, vs, ns, rfl, rfl, hobj, hints, hlen⟩ := script_of hn hpre hwl
  refine enter_callW ?_
  refine call_cells_ret (o := o) (by rw [depth_caller]; decide) ho (fd_plain hd) G.T.nolimit hcd (hbind pm cd doc (.ref a)) (fun y hy => ?_) (fun h₁ tk F X => ?_) hco hgen hk
  · obtain rfl : y = (x, Value.ref a) := List.mem_singleton.mp hy
    rcases hx with e | e
    · exact .inl e
    · exact .inr ⟨e, cellsFrom_some _ _ _ (.inl e)⟩
  · refine wpAny_mono (body w s₀ s₁ { s₁ with heap := h₁, toks := tk } mg mb fa o pm cd doc a vs ns G Y ho (fd_plain hd) hcd hmg hobj hints hlen hg rfl F X) (fun f s' hq => ?_) (fun _ _ hq => hq)
    obtain ⟨rfl, h2, h3, h4⟩ := hq
    exact ⟨.inl ⟨.bool true, .bool true, [], rfl, fun _ => rfl, .bool true, post_true l _, fun _ => ⟨List.Pairwise.nil, fun _ hm => (nomatch hm)⟩⟩, h2, h3, h4⟩

/-! ### rules over ANY heap (no ledger) from facts about the written part K: the library's own take a ledger (News) for what they write -/
section
variable {prog : Program} {w : World} {A : Around} {E : Value → Shared → Prop} {s : Shared} {K : Frag}

/-- a def of the module, or a method (qual 'C.m'), entered: the frame is the next address; cells behind it -/
theorem call_fn {R : Result → Shared → Prop} {name qual : Str} {params : Arguments} {body : List Stmt} {scope : Scope} {dV kV doc pm cdv ct oc : Value} {an od : Option Addr} {osl : Array (Option Value)} {f : Addr} {args : Args} {binds : List (Str × Value)}
    (X : K.In s.heap) (hlim : s.heap.NoLimit) (ho : K.lookup f = some ⟨oc, od, .func (fnOf name qual params body scope dV kV doc pm an cdv ct), osl⟩) (hcd : codeIn K cdv qual = true) (hroom : A.depth < recursionLimit)
    (hbind : BindsTo s (fnOf name qual params body scope dV kV doc pm an cdv ct) args binds)
    (hkind : (binds.all fun y => scope.names.lookup y.1 == some .local || scope.names.lookup y.1 == some .cell) = true)
    (h : ∀ s₁, InCallC s s.heap.objs.size (bindL (envOfC qual scope s.heap.objs.size f cdv).kindOf binds fun _ => none) (cellsFrom (s.heap.objs.size + 1) scope.names [])
        (bindC (envOfC qual scope s.heap.objs.size f cdv).kindOf binds fun _ => none) s₁ →
      wpAny (model prog w) (A.deeper (envOfC qual scope s.heap.objs.size f cdv)) (execs body (envOfC qual scope s.heap.objs.size f cdv))
        (fun fl s' => R (.ok (.ret (match fl with | .ret v => v | _ => .none))) s')
        (fun e s' => wpAny (model prog w) (A.deeper (envOfC qual scope s.heap.objs.size f cdv)) (leaving (envOfC qual scope s.heap.objs.size f cdv) e) (fun _ s'' => R (.error e) s'') (fun e' s'' => R (.error e') s'') s') s₁)
    (hco : scope.isCoroutine = false) (hgen : scope.isGenerator = false) (hk : scope.kind = .function) : codeAny (model prog w) A (.call (.ref f) args) R s := by
  refine codeAny_call_function hroom (X _ _ ho) rfl hco hgen rfl (codeRec_of X hcd) (hbind _ _ _ _ ?_)
  refine wpAny_newFunctionEnv_cells hk (kindsX hkind _) fun env he s₁ x => ?_
  subst he
  exact ⟨hlim.keeps x.toInCall.keep, codeAny_func (h s₁ x)⟩

/-- C(..): dict at size, instance at size + 1, then __init__ -/
theorem make_obj {R : Result → Shared → Prop} {C fI : Addr} {rest : List Value} {kw : List (Str × Value)}
    (X : K.In s.heap) (hm : makesIn K C = true) (hi : findIn K (.ref C) "__init__" = some (some (.ref fI))) (hf : isFn K (.ref fI) = true)
    (h : codeAny (model prog w) (A.under (.builtin "type.__call__" ⟨.ref C :: rest, kw⟩)) (.call (.ref fI) ⟨.ref (s.heap.objs.size + 1) :: rest, kw⟩) (InitBack (s.heap.objs.size + 1) R)
      { s with heap := (s.heap.push emptyDict).push (instObj C s.heap.objs.size) }) : codeAny (model prog w) A (.call (.ref C) ⟨rest, kw⟩) R s := by
  obtain ⟨hh, g, d, t, os⟩ := s
  exact make_core (makes_of X hm) (looks_findIn X hi) (fun self => bind_fn X self (beq_iff_eq.mp hf)) (.inl rfl) h

/-- x.name where the instance's dict holds the name and the class does not -/
theorem get_field {x C : Addr} {ox : Obj} {es : List DictEntry} {n : Nat} {name : Str} {expr : Bool} {v : Value} {Q : Value → Shared → Prop}
    (X : K.In s.heap) (I : PySem.W.InstAt s.heap x ox C (some (dictOf es n))) (hg : plainGet K C name = true) (hh : hasDictIn K C = true) (ha : findIn K (.ref C) name = some none)
    (hl : getL name es = some (some v)) (hv : handedIn v = true) (h : Q v { s with toks := s.toks + 1 }) : wpAny (model prog w) A (getAttr (.ref x) name expr) Q E s :=
  get_value X I (plainGet_of hg).1 (findObj_own hh ha rfl hl) hv h

/-- x.m(..): the method found in the class -/
theorem get_method {x C f : Addr} {ox : Obj} {es : List DictEntry} {n : Nat} {name : Str} {pl : Sem Bool} {Q : Value × List Value → Shared → Prop}
    (X : K.In s.heap) (I : PySem.W.InstAt s.heap x ox C (some (dictOf es n))) (hg : plainGet K C name = true) (hf : findIn K (.ref C) name = some (some (.ref f))) (ht : isFn K (.ref f) = true)
    (hl : getL name es = some none) (h : Q (.ref f, [.ref x]) s) : wpAny (model prog w) A (getMethod (.ref x) name pl) Q E s :=
  method_fn X I (plainGet_of hg).1 (plainGet_of hg).2 hf (beq_iff_eq.mp ht) (by show (lookIn name (dictOf es n)).map _ = _; rw [lookIn_dict, hl]; rfl) h

/-! the whole heap as the ledger: makes every rule that writes through a ledger a rule over any heap -/
def noObjs (h : Heap) : Heap := { h with objs := #[] }
theorem noObjs_get (h : Heap) (b : Addr) : (noObjs h).get? b = none := by
  cases e : (noObjs h).get? b with
  | none => rfl
  | some o => exact absurd (Heap.lt_size e) (Nat.not_lt_zero _)
def ledger (h : Heap) (L d : Addr) : List (Addr × Obj) := (List.range h.objs.size).filterMap fun a => if a = L ∨ a = d then none else (h.get? a).map fun o => (a, o)
theorem mem_ledger {h : Heap} {L d a : Addr} {o : Obj} : (a, o) ∈ ledger h L d ↔ a ≠ L ∧ a ≠ d ∧ h.get? a = some o := by
  unfold ledger
  rw [List.mem_filterMap]
  constructor
  · rintro ⟨b, _, e⟩
    split at e
    · cases e
    · rename_i hb
      obtain ⟨o', ho, e'⟩ := Option.map_eq_some_iff.mp e
      cases e'
      exact ⟨fun q => hb (.inl q), fun q => hb (.inr q), ho⟩
  · rintro ⟨n1, n2, ho⟩
    refine ⟨a, List.mem_range.mpr (Heap.lt_size ho), ?_⟩
    rw [if_neg (show ¬ (a = L ∨ a = d) from fun q => q.elim n1 n2), ho] <;> rfl
theorem news_ledger {h : Heap} {L d : Addr} {od : Obj} (hne : d ≠ L) (ho : h.get? d = some od) : News (noObjs h) L h ([] ++ (d, od) :: ledger h L d) := by
  rintro ⟨a, o⟩ hp
  rcases List.mem_cons.mp hp with e | hp
  · cases e
    exact ⟨ho, hne, noObjs_get _ _⟩
  · obtain ⟨n1, n2, e⟩ := mem_ledger.mp hp
    exact ⟨e, n1, noObjs_get _ _⟩
theorem fr_all {h : Heap} {L : Addr} {m : Str → Option Value} (n : h.Ns L m) : Fr (noObjs h) L h m :=
  ⟨n, fun b o e => (by rw [noObjs_get] at e; cases e), Nat.zero_le _⟩
/-- Upd of the head entry (for append_K, setItem_K ..) -/
theorem upd_ledger {h : Heap} {L d : Addr} {o o' : Obj} : Upd d o o' ((d, o) :: ledger h L d) ((d, o') :: ledger h L d) :=
  .head fun ⟨_, _⟩ hp => (mem_ledger.mp hp).2.1

/-- x.name = v over any heap: L is any namespace of the heap (the frame's, say): its map stays, its object is not told; all else but the dict stays -/
theorem set_field {x C dx L : Addr} {ox : Obj} {m : Str → Option Value} {es es' : List DictEntry} {n n' : Nat} {name : Str} {v : Value} {Q : Unit → Shared → Prop}
    (X : K.In s.heap) (I : PySem.W.InstAt s.heap x ox C (some (dictOf es n))) (hd : ox.dict = some dx) (hL : s.heap.Ns L m) (hne : dx ≠ L)
    (hs : findIn K (.ref C) "__setattr__" = some (some (.builtin "object.__setattr__"))) (hp : plainOver K C = true) (ht : takerIn K C name = some none) (hh : hasDictIn K C = true) (hl : (getL name es).isSome = true)
    (e : (putL name (PyData.keyHash w.params name) (.str name (s.toks + 1)) v es, putN name es n) = (es', n')) (hz : es'.length ≤ 1000)
    (h : ∀ h' : Heap, h'.Ns L m → h'.get? dx = some (dictOf es' n') → (∀ b o, b ≠ dx → b ≠ L → s.heap.get? b = some o → h'.get? b = some o) → Q () { s with heap := h', toks := s.toks + 2 }) :
    wpAny (model prog w) A (setAttr (.ref x) name v) Q E s := by
  obtain ⟨e1, e2⟩ := Prod.mk.inj e
  have hdx : s.heap.get? dx = some (dictOf es n) := by
    have := I.dict
    rw [hd] at this
    exact this
  refine set_plain X I hs (osa_dict (s := { s with toks := s.toks + 1 }) (h₀ := noObjs s.heap) (L := L) (m := m) (od := dictOf es n) (od' := dictOf es' n') (es := es') (n := n') (pre := []) (post := ledger s.heap L dx)
    (fr_all hL) (news_ledger hne hdx) X I hd hp ht hh hl (fun _ q => nomatch q) (fun ⟨_, _⟩ q => (mem_ledger.mp q).2.1) (by rw [putName_dict, e1, e2]) rfl hz fun h' F' N' => ?_)
  exact h h' F'.ns (N'.get (List.Mem.head _)) fun b o n1 n2 ho => N'.get (List.Mem.tail _ (mem_ledger.mpr ⟨n2, n1, ho⟩))
end
end Att

namespace L2
open PySem PySem.Spec PyProof.Rows

theorem vals_ints : ∀ {vs : List Value} {ns : List Int}, IntsAre vs ns → Vals (ns.map V.int) vs
  | _, _, .nil => .nil
  | _, _, .cons n t h => .cons ⟨t, rfl⟩ (vals_ints h)

/-- nothing is tracked but the script, known to the object (or it is an object of the module) -/
def Only (H : Hp) : Prop := ∀ b, H b = none ∨ ∃ o xs, H b = some (.frz o (.lst xs))

/-- THE HEAD: the law's promise, at the heap behind the top. F, the promise of the law's def, may use that base is part of the heap (so K.In base, base.Ns mainGlobals mg stand in Mod) -/
theorem law_call {P : Program} {w : World} {K : PySem.W.Frag} {mg mb : Str → Option Value} {CX : CXT} {k : Nat} {fa a : Addr} {fd : FuncData} {x : Str} {sp : Sp} {s₁ : Shared} {vs : List Value} {ns : List Int}
    (KX : K.In s₁.heap) (hns : s₁.heap.Ns mainGlobals mg) (hb : s₁.heap.Ns builtinsNs mb) (hbb : ∀ x : Str, x ≠ "__name__" → mb x = bootBuiltins x) (hlim : s₁.heap.NoLimit) (hg : s₁.gens = #[])
    (ha : s₁.heap.get? a = some { cls := .type "list", data := .seq vs.toArray }) (hi : IntsAre vs ns) (hl : ns.length ≤ sizeLine) (hr : Room k callerA)
    (F : ∀ base : Heap, K.In base → base.Ns mainGlobals mg → FnOk P w K mg base CX k fa fd [x] sp) (hbind : ∀ (s : Shared) (u : Value), BindsTo s fd ⟨[u], []⟩ [(x, u)])
    (hsp : ∀ H : Hp, Only H → SqL K H a (ns.map V.int) → sp [.ref a] H (fun v _ => v = .bl true) fun _ _ _ => False)
    (hCX : ∀ H e s', CX [] H s₁ (fun _ _ _ => False) e s' → False) :
    codeAny (model P w) callerA (.call (.ref fa) ⟨[.ref a], []⟩) (fun r s' => r = .ok (.ret (.bool true)) ∧ OldK s₁.heap s'.heap ∧ s'.os = s₁.os ∧ AllBare s'.gens) s₁ := by
  have rv := vals_ints hi
  have lenV := hi.length
  -- from an abstract heap in which nothing but the script may be tracked
  have core : ∀ H : Hp, Only H → SqL K H a (ns.map V.int) → HOk P w H s₁.heap → (∀ b, H b ≠ none → b = a) → (H a ≠ none → K.lookup a = none) →
      codeAny (model P w) callerA (.call (.ref fa) ⟨[.ref a], []⟩) (fun r s' => r = .ok (.ret (.bool true)) ∧ OldK s₁.heap s'.heap ∧ s'.os = s₁.os ∧ AllBare s'.gens) s₁ := by
    intro H hO hS hok hA hK
    have base_of : ∀ {b : Addr} {o : Obj}, s₁.heap.get? b = some o → H b = none → (hidT s₁.heap H).get? b = some o := fun e n => hidT_get e n
    have noA : ∀ {b : Addr} {o : Obj} {es : Array DictEntry} {ep : Nat}, s₁.heap.get? b = some o → o.data = .dict es ep → H b = none := fun {b o es ep} e d => by
      cases q : H b with
      | none => rfl
      | some u =>
        have e' : b = a := hA b (by rw [q]; simp)
        subst e'
        rw [ha] at e; cases e
        have d' : Data.seq vs.toArray _ = Data.dict es ep := d
        cases d'
    have nsK : ∀ {b : Addr} {m : Str → Option Value}, s₁.heap.Ns b m → (hidT s₁.heap H).Ns b m := fun {b m} ⟨o, es, ep, e, d, r⟩ => ⟨o, es, ep, base_of e (noA e d), d, r⟩
    have hKb : K.In (hidT s₁.heap H) := fun b o e => base_of (KX b o e) (by
      cases q : H b with
      | none => rfl
      | some u =>
        have e' : b = a := hA b (by rw [q]; simp)
        subst e'
        rw [hK (by rw [q]; simp)] at e; cases e)
    have hM : Mod K mg (hidT s₁.heap H) := ⟨hKb, nsK hns, ⟨mb, nsK hb, hbb⟩, let ⟨mc, h1, h2⟩ := hlim; ⟨mc, nsK h1, h2⟩⟩
    have e0 : Env0 P w K mg (hidT s₁.heap H) callerA [] s₁ H := ⟨rfl, hM, fun b o e => of_hidT e, Nat.le_of_eq (hidT_size _ _), trivial, fun b hb => absurd (show b ∈ ([] : List Addr) from hb) (by simp), hok, .of_eq hg⟩
    refine codeAny_mono ((F _ hKb (nsK hns)).run callerA [] s₁ H ⟨[.ref a], []⟩ [.ref a] [.ref a] _ _ hr e0 (hbind s₁ (.ref a)) (.cons rfl .nil) (hsp H hO hS)) fun r s' h => ?_
    cases r with
    | error e => exact (hCX H e s' h).elim
    | ok fl =>
      cases fl with
      | next => exact False.elim h
      | brk => exact False.elim h
      | cont => exact False.elim h
      | ret u =>
        obtain ⟨v, H', os, bare, un, hok', r', q⟩ := h
        have q' : v = .bl true := q
        subst q'
        obtain rfl : u = Value.bool true := r'
        refine ⟨rfl, OldK.of_keep fun b o e => ?_, os, bare⟩
        cases q : H b with
        | none => exact un.keep b o e q (by intro z; exact absurd (show b ∈ ([] : List Addr) from z) (by simp)) (by simp)
        | some u =>
          rcases hO b with z | ⟨ob, xs, z⟩
          · rw [q] at z; cases z
          · have z2 := un.frzs b ob _ z
            obtain ⟨e1, _⟩ := hok b _ z
            obtain ⟨e2, _⟩ := hok' b _ z2
            rw [e] at e1; cases e1
            exact e2
  cases hk : K.lookup a with
  | some o =>
    -- the script is one of the module's own objects
    have e := KX a o hk
    rw [ha] at e
    cases e
    refine core (fun _ => none) (fun _ => .inl rfl) (.inr ⟨_, vs.toArray, _, hk, rfl, rfl, rfl, by rw [List.size_toArray, lenV]; exact hl, by simpa using rv⟩) (fun b u z => by have z' : (none : Option HO) = some u := z; cases z') (fun b z => absurd rfl z) fun z => absurd rfl z
  | none =>
    refine core (fun b => if b = a then some (.frz { cls := .type "list", data := .seq vs.toArray } (.lst (ns.map V.int))) else none) (fun b => ?_) (.inl (.inr ⟨{ cls := .type "list", data := .seq vs.toArray }, if_pos rfl⟩)) (fun b u z => ?_) (fun b z => ?_) fun _ => hk
    · by_cases hb : b = a
      · exact .inr ⟨_, _, if_pos hb⟩
      · exact .inl (if_neg hb)
    · by_cases hb : b = a
      · have z' := (if_pos hb).symm.trans z
        cases z'
        subst hb
        exact ⟨ha, by rw [List.length_map]; exact hl, vs, _, rv, ha⟩
      · have z' := (if_neg hb).symm.trans z
        cases z'
    · by_cases hb : b = a
      · exact hb
      · exact absurd (if_neg hb) z
end L2

namespace L2
open PySem PySem.Spec PyProof.Rows

abbrev KOf {K : PySem.W.Frag} {h : Heap} (_ : K.In h) : PySem.W.Frag := K

/-- the goal that k_head leaves (case hc), from the law's promise. F gives the function object fd (K's own) once, then the promise over every base -/
theorem walk_of {l : PySem.W.OpenLaw} {n k : Nat} {q : Program} {loose : List Str} {XP : (Str → Option Value) → Heap → Prop} {YP : World → Heap → Prop} {d : DefRec} {K : Params → PySem.W.Frag} {CX : World → CXT} {sp : World → Sp} {x : Str}
    (hn : l.most = some n) (hn2 : n ≤ sizeLine) (hdf : d.params.defaults = []) (hr : Room k callerA)
    (hY : ∀ (w : World) (h : Heap), YP w h → (K w.params).In h)
    (F : ∀ (w : World) (mg : Str → Option Value) (fa : Addr) (h : Heap), (K w.params).In h → h.Ns mainGlobals mg → mg d.name = some (.ref fa) →
      ∃ fd : FuncData, (∀ (s : Shared) (u : Value), BindsTo s fd ⟨[u], []⟩ [(x, u)]) ∧
        ∀ base : Heap, (K w.params).In base → base.Ns mainGlobals mg → FnOk l.prog w (K w.params) mg base (CX w) k fa fd [x] (sp w))
    (hsp : ∀ (w : World) (H : Hp) (a : Addr) (ns : List Int), ns.length ≤ n → Only H → SqL (K w.params) H a (ns.map V.int) → sp w [.ref a] H (fun v _ => v = .bl true) fun _ _ _ => False)
    (hCX : ∀ (w : World) (H : Hp) (s : Shared) (e : Value) (s' : Shared), CX w [] H s (fun _ _ _ => False) e s' → False) :
    PySem.W.WalkO q loose XP YP l.row.toRowW d [] (fun f vs => PySem.call f vs) := by
  refine Att.attach_call hn hdf fun w s₀ s₁ mg mb fa o pm cd doc a vs ns G Y ho hd hcd hmg hobj hints hlen hg => ?_
  have KX := hY w _ Y
  obtain ⟨fd, hb, hF⟩ := F w mg fa _ KX G.T.g hmg
  exact law_call KX G.T.g G.T.b G.T.builtins G.T.nolimit hg hobj hints (Nat.le_trans hlen hn2) hr hF hb (fun H hO hS => hsp w H a ns hlen hO hS) fun H e s' => hCX w H s₁ e s'
/-- the same where the promise hangs on the written part alone: (sp := My.sp_law), no hole under a binder -/
theorem walk_ofK {l : PySem.W.OpenLaw} {n k : Nat} {q : Program} {loose : List Str} {XP : (Str → Option Value) → Heap → Prop} {YP : World → Heap → Prop} {d : DefRec} {K : Params → PySem.W.Frag} {CX : CXT} {sp : PySem.W.Frag → Sp} {x : Str}
    (hn : l.most = some n) (hn2 : n ≤ sizeLine) (hdf : d.params.defaults = []) (hr : Room k callerA)
    (hY : ∀ (w : World) (h : Heap), YP w h → (K w.params).In h)
    (F : ∀ (w : World) (mg : Str → Option Value) (fa : Addr) (h : Heap), (K w.params).In h → h.Ns mainGlobals mg → mg d.name = some (.ref fa) →
      ∃ fd : FuncData, (∀ (s : Shared) (u : Value), BindsTo s fd ⟨[u], []⟩ [(x, u)]) ∧
        ∀ base : Heap, (K w.params).In base → base.Ns mainGlobals mg → FnOk l.prog w (K w.params) mg base CX k fa fd [x] (sp (K w.params)))
    (hsp : ∀ (K : PySem.W.Frag) (H : Hp) (a : Addr) (ns : List Int), ns.length ≤ n → Only H → SqL K H a (ns.map V.int) → sp K [.ref a] H (fun v _ => v = .bl true) fun _ _ _ => False)
    (hCX : ∀ (H : Hp) (s : Shared) (e : Value) (s' : Shared), CX [] H s (fun _ _ _ => False) e s' → False) :
    PySem.W.WalkO q loose XP YP l.row.toRowW d [] (fun f vs => PySem.call f vs) :=
  walk_of (K := K) (CX := fun _ => CX) (sp := fun w => sp (K w.params)) hn hn2 hdf hr hY F (fun w H a ns h1 h2 h3 => hsp (K w.params) H a ns h1 h2 h3) fun _ H s e s' => hCX H s e s'
end L2

/- THE LAST THEOREM (shape; LID, My.* are yours):
   My.Adr: a structure of the addresses that your layer names (classes, functions); My.Txt K t: a structure (Prop) of the equations over K;
   My.txt_mk : {K} {implicit addresses ..} (e1 : nsIn K mainGlobals "law" = some (some (.ref f))) (e2 : K.lookup f = some ⟨oc, od, .func (fnOf "law" "law" params body scope dV kV doc pm an cdv ct), sl⟩) (e3 : codeIn K cdv "law" = true) .. : ∃ t, My.Txt K t

set_option maxRecDepth 100000 in
set_option maxHeartbeats 0 in
theorem PySem.Challenge.cw_LID_holds : PySem.Challenge.rw_LID.Holds := by
  w_on; o_law; k_head; (case hw => w_witness2)
  k_fill
  refine L2.walk_of (l := PySem.Challenge.rw_LID) (n := 63) (k := 40) (x := "script") (CX := fun w => ..) (sp := fun _ => My.sp_law) rfl (by decide) rfl ⟨rfl, by decide, by decide⟩ (fun w h Y => PySem.W.kIn_of Y) ?F ?S ?C
  case F =>
    intro w mg fa h KX G hmg
    have T : ∃ t, My.Txt (L2.KOf KX) t := by
      dsimp only [L2.KOf]                          -- K must stand as «<heap const> w.params» for k_is
      refine' My.txt_mk ?e1 ?e2 ?e3 ..
      (case e1 => PySem.W.k_is)                    -- in the order: a name -> its address -> its object -> its parts
      (case e2 => PySem.W.k_is)
      ..
    obtain ⟨t, T⟩ := T
    have e0 := hmg.symm.trans (PySem.W.mg_of KX G T.law)
    cases e0                                       -- fa is the law's own address
    exact ⟨_, fun s u => .of_eq rfl, fun base kb nb => My.law_fn T kb nb⟩     -- if «.of_eq rfl» comes too early: refine' ⟨_, ?b, fun base kb nb => My.law_fn T kb nb⟩; exact fun s u => .of_eq rfl
  case S => exact fun w H a ns hl hO hS => ..
  case C => exact ..
(the tactic k_is has no namespace: write k_is) -/

/-! SHORT WORDS over the layer: a def of the text, its body, what a loop and a test want. -/
namespace L2
open PySem PySem.Spec PyProof.Rows

/-! ### the text by places -/
/-- the j-th statement of a class's body -/
def inClass (s : Stmt) (j : Nat) : Stmt := match s with
  | .ClassDef _ _ _ body _ _ _ _ _ _ _ => body.getD j (.Pass ⟨0, 0, 0, 0⟩)
  | _ => .Pass ⟨0, 0, 0, 0⟩
def defArgs (s : Stmt) : Arguments := match s with
  | .FunctionDef _ a _ _ _ _ _ _ _ _ => a
  | _ => { posonlyargs := [], args := [], vararg := none, kwonlyargs := [], kw_defaults := [], kwarg := none, defaults := [] }
def defBody (s : Stmt) : List Stmt := match s with
  | .FunctionDef _ _ b _ _ _ _ _ _ _ => b
  | _ => []
def defScope (s : Stmt) : Scope := match s with
  | .FunctionDef _ _ _ _ _ _ sc _ _ _ => sc
  | _ => { kind := .function, names := [], isGenerator := false, isCoroutine := false }

/-! ### no exception leaves a def -/
abbrev CX0 : CXT := fun _ _ _ _ _ _ => False
abbrev E0 : XK := fun _ _ _ => False
theorem pass0 {X : Cx} : Passes CX0 X E0 := fun _ _ _ _ _ _ _ h => h.elim

/-! ### a def (or method) of the text as it stands behind the top -/
structure Fun (K : PySem.W.Frag) (x qual : Str) (st : Stmt) (f : Addr) (fd : FuncData) : Prop where
  ex : ∃ (oc : Value) (od : Option Addr) (kV doc pm : Value) (an : Option Addr) (cdv ct : Value) (osl : Array (Option Value)),
    fd = PySem.W.fnOf x qual (defArgs st) (defBody st) (defScope st) .none kV doc pm an cdv ct ∧ K.lookup f = some ⟨oc, od, .func fd, osl⟩ ∧ PySem.W.codeIn K cdv qual = true
  kp : PySem.W.keepIn K (.ref f) = true
section
variable {P : Program} {w : World} {K : PySem.W.Frag} {mg : Str → Option Value} {base : Heap}
/-- THE RULE for a def: its body as a term of rules, and the reading of that term -/
theorem Fun.ok {x qual : Str} {st : Stmt} {f : Addr} {fd : FuncData} {N ps : List Str} {k : Nat} {sp : Sp} (F : Fun K x qual st f fd) (S : FnScope N ps (defScope st)) (len : ∀ vs H Q E, sp vs H Q E → vs.length = ps.length)
    (hbody : ∀ (cdv : Value) (A : Around) (outer : List Env) (s : Shared) (H : Hp) (vs : List V) (Q : VK) (E : XK), Room k (A.deeper (envOfC qual (defScope st) s.heap.objs.size f cdv)) → sp vs H Q E →
      ∃ t, PSs (cxOf CX0 P w K mg base N qual (defScope st) f cdv A outer s H E).nox (defBody st) t ∧ t { nx := fun _ H' => Q .non H', rt := Q } (start N vs) H) : FnOk P w K mg base CX0 (k + 1) f fd ps sp := by
  obtain ⟨oc, od, kV, doc, pm, an, cdv, ct, osl, rfl, lk, hcd⟩ := F.ex
  refine fn_of lk hcd S len fun A outer s H vs Q E hr hsp => ?_
  obtain ⟨t, h, q⟩ := hbody cdv A outer s H vs Q E hr hsp
  exact ⟨t, h.nox, q⟩
/-- how its arguments bind (no defaults): h is «fun _ _ _ _ _ _ us hl => match us, hl with | [_, _], _ => rfl», one _ a parameter -/
theorem Fun.binds {x qual : Str} {st : Stmt} {f : Addr} {fd : FuncData} {ps : List Str} (F : Fun K x qual st f fd)
    (h : ∀ (kV doc pm : Value) (an : Option Addr) (cdv ct : Value) (us : List Value), us.length = ps.length → bindArgs (PySem.W.fnOf x qual (defArgs st) (defBody st) (defScope st) .none kV doc pm an cdv ct) ⟨us, []⟩ = pure (ps.zip us)) : Binds K fd ps [] := by
  obtain ⟨oc, od, kV, doc, pm, an, cdv, ct, osl, rfl, lk, hcd⟩ := F.ex
  exact .all (h kV doc pm an cdv ct)
theorem fun_mk {x qual : Str} {st : Stmt} {f : Addr} {oc : Value} {od an : Option Addr} {osl : Array (Option Value)} {kV doc pm cdv ct : Value} (l : K.lookup f = some ⟨oc, od, .func (PySem.W.fnOf x qual (defArgs st) (defBody st) (defScope st) .none kV doc pm an cdv ct), osl⟩)
    (c : PySem.W.codeIn K cdv qual = true) (k : PySem.W.keepIn K (.ref f) = true) : Fun K x qual st f (PySem.W.fnOf x qual (defArgs st) (defBody st) (defScope st) .none kV doc pm an cdv ct) := ⟨⟨oc, od, kV, doc, pm, an, cdv, ct, osl, rfl, l, c⟩, k⟩
end
theorem hu_of {A : Around} {k : Nat} (hr : Room k A) : A.units + 1 < cLine := Nat.lt_of_le_of_lt (Nat.add_le_add_left (by decide : 1 ≤ 64) _) hr.units
theorem small1000 {n : Nat} (h : n ≤ 1000) : n < sizeLine := Nat.lt_of_le_of_lt h (by decide)

/-! ### expressions in short: the name that stands in the i-th slot -/
section
variable {X : Cx}
theorem pv (i : Nat) {x : Str} {pos : Pos} (hN : X.N[i]? = some x := by rfl) (hv : Vis X.env.scope x := by first | exact Or.inl rfl | exact Or.inr (Or.inl rfl) | exact Or.inr (Or.inr rfl)) (hd : (x == ("__debug__" : Str)) = false := by decide)
    (hcd : (x == ("__classdict__" : Str)) = false := by decide) : PE X (.Name x pos) (tVar i) := pe_var hN hv hd hcd
/-- len of a dict -/
theorem call_lenD : CallR X (.builtin "len") (fun xs H Q => ∃ a kvs, xs = [V.ref a] ∧ H a = some (.dK kvs) ∧ Q (.int kvs.length) H) := by
  intro pins s σ H xs us Q I r h
  obtain ⟨a, kvs, rfl, ha, q⟩ := h
  obtain ⟨u, rfl, ru⟩ := vals1 r
  cases ru
  exact d_len I (.inl ha) fun t s' I' => ⟨.int kvs.length, H, I', ⟨t, rfl⟩, q⟩
end

/-! ### tests -/
theorem iteF {A B : Prop} (h : B) : if false = true then A else B := by
  rw [if_neg Bool.false_ne_true]
  exact h
theorem iteT {A B : Prop} (h : A) : if true = true then A else B := by
  rw [if_pos rfl]
  exact h
theorem ite2 {c A B : Prop} [Decidable c] (h1 : c → A) (h2 : ¬ c → B) : if c then A else B := by
  by_cases h : c
  · rw [if_pos h]
    exact h1 h
  · rw [if_neg h]
    exact h2 h
theorem iteNS {c A B : Prop} [Decidable c] (hc : c) (h : B) : if (!decide c) = true then A else B := by
  rw [decide_eq_true hc]
  exact iteF h

/-! ### heaps -/
/-- all that was tracked is as it was -/
def Same (H H' : Hp) : Prop := ∀ b o, H b = some o → H' b = some o
theorem Same.refl (H : Hp) : Same H H := fun _ _ h => h
theorem Same.trans {H H1 H2 : Hp} (a : Same H H1) (b : Same H1 H2) : Same H H2 := fun c o h => b c o (a c o h)
theorem Same.free {H H' : Hp} (e : Same H H') {l : Addr} (h : H' l = Option.none) : H l = Option.none := by
  cases q : H l with
  | none => rfl
  | some o =>
    rw [e l o q] at h
    cases h
theorem Same.seq {K : PySem.W.Frag} {H H' : Hp} {a : Addr} {xs : List V} (e : Same H H') (h : SqL K H a xs) : SqL K H' a xs := by
  rcases h with (h | ⟨o, h⟩) | h
  · exact .inl (.inl (e _ _ h))
  · exact .inl (.inr ⟨o, e _ _ h⟩)
  · exact .inr h

/-! ### a dict's pairs: keys that differ -/
section
variable {κ : Type} [DecidableEq κ]
theorem valV_not {kvs : List (κ × V)} {k : κ} (h : valV kvs k = none) : ¬ k ∈ kvs.map (·.1) := by
  intro m
  obtain ⟨p, hp, e⟩ := List.mem_map.mp m
  have q : (kvs.any fun kv => decide (kv.1 = k)) = true := List.any_eq_true.mpr ⟨p, hp, decide_eq_true e⟩
  rw [valV_any, h] at q
  exact absurd q (by simp)
theorem valV_in {kvs : List (κ × V)} {k : κ} {v : V} (h : valV kvs k = some v) : k ∈ kvs.map (·.1) := by
  have q : (kvs.any fun kv => decide (kv.1 = k)) = true := by
    rw [valV_any, h]
    all_goals rfl
  obtain ⟨p, hp, e⟩ := List.any_eq_true.mp q
  exact List.mem_map.mpr ⟨p, hp, of_decide_eq_true e⟩
theorem nd_snoc : ∀ {l : List κ} {k : κ}, l.Nodup → ¬ k ∈ l → (l ++ [k]).Nodup
  | [], k, _, _ => by simp
  | a :: r, k, h, hk => by
    obtain ⟨h1, h2⟩ := List.nodup_cons.mp h
    show (a :: (r ++ [k])).Nodup
    refine List.nodup_cons.mpr ⟨fun m => ?_, nd_snoc h2 fun m => hk (List.mem_cons.mpr (Or.inr m))⟩
    rcases List.mem_append.mp m with q | q
    · exact h1 q
    · exact hk (List.mem_cons.mpr (Or.inl (List.mem_singleton.mp q).symm))
theorem nd_putK {kvs : List (κ × V)} {k : κ} (v : V) (hn : (kvs.map (·.1)).Nodup) (h : valV kvs k = none) : ((putK kvs k v).map (·.1)).Nodup := by
  rw [putK_new v h, List.map_append]
  exact nd_snoc hn (valV_not h)
theorem dropK_pos {p : κ × V} {r : List (κ × V)} {k : κ} (e : p.1 = k) : dropK (p :: r) k = dropK r k := by
  unfold dropK
  rw [List.filter_cons, if_neg (by simp [e])]
theorem dropK_neg {p : κ × V} {r : List (κ × V)} {k : κ} (e : ¬ p.1 = k) : dropK (p :: r) k = p :: dropK r k := by
  unfold dropK
  rw [List.filter_cons, if_pos (by simp [e])]
theorem dropK_no : ∀ {kvs : List (κ × V)} {k : κ}, ¬ k ∈ kvs.map (·.1) → dropK kvs k = kvs
  | [], _, _ => rfl
  | p :: r, k, h => by
    have h' : ¬ k ∈ r.map (·.1) := fun m => by
      obtain ⟨q, hq, e⟩ := List.mem_map.mp m
      exact h (List.mem_map.mpr ⟨q, List.mem_cons.mpr (Or.inr hq), e⟩)
    rw [dropK_neg fun e => h (List.mem_map.mpr ⟨p, List.mem_cons.mpr (Or.inl rfl), e⟩), dropK_no h']
theorem dropK_mem {kvs : List (κ × V)} {k : κ} {p : κ × V} (h : p ∈ dropK kvs k) : p ∈ kvs := (List.mem_filter.mp h).1
theorem nd_dropK : ∀ {kvs : List (κ × V)} {k : κ}, (kvs.map (·.1)).Nodup → ((dropK kvs k).map (·.1)).Nodup
  | [], _, _ => List.nodup_nil
  | p :: r, k, h => by
    have h : (p.1 :: r.map (·.1)).Nodup := h
    obtain ⟨h1, h2⟩ := List.nodup_cons.mp h
    by_cases e : p.1 = k
    · rw [dropK_pos e]
      exact nd_dropK h2
    · rw [dropK_neg e]
      show (p.1 :: (dropK r k).map (·.1)).Nodup
      refine List.nodup_cons.mpr ⟨fun m => h1 ?_, nd_dropK h2⟩
      obtain ⟨q, hq, eq⟩ := List.mem_map.mp m
      exact List.mem_map.mpr ⟨q, dropK_mem hq, eq⟩
theorem dropK_len : ∀ {kvs : List (κ × V)} {k : κ}, (kvs.map (·.1)).Nodup → k ∈ kvs.map (·.1) → (dropK kvs k).length + 1 = kvs.length
  | [], _, _, m => by simp at m
  | p :: r, k, h, m => by
    have h : (p.1 :: r.map (·.1)).Nodup := h
    have m : k = p.1 ∨ k ∈ r.map (·.1) := List.mem_cons.mp m
    obtain ⟨h1, h2⟩ := List.nodup_cons.mp h
    by_cases e : p.1 = k
    · subst e
      rw [dropK_pos rfl, dropK_no h1]
      all_goals rfl
    · have m' : k ∈ r.map (·.1) := m.resolve_left fun z => e z.symm
      have q := dropK_len h2 m'
      rw [dropK_neg e, List.length_cons, List.length_cons]
      omega
end
/-! ### lists -/
theorem at_of {xs : List V} {z : Int} {j : Nat} {v : V} (e : z = (j : Int)) (h : xs[j]? = some v) : atI xs z = some v := by
  rw [e]
  exact atI_nat h
theorem nd_ix {α : Type} {l : List α} (hN : l.Nodup) {i j : Nat} {x : α} (a : l[i]? = some x) (b : l[j]? = some x) : i = j := by
  obtain ⟨h1, e1⟩ := List.getElem?_eq_some_iff.mp a
  obtain ⟨h2, e2⟩ := List.getElem?_eq_some_iff.mp b
  exact (List.getElem_inj hN).mp (e1.trans e2.symm)
theorem sum_set : ∀ {l : List Int} {j : Nat} {z y : Int}, l[j]? = some z → (l.set j y).sum = l.sum - z + y
  | [], j, z, y, h => by simp at h
  | a :: r, 0, z, y, h => by
    have e : a = z := Option.some.inj h
    subst e
    show (y :: r).sum = (a :: r).sum - a + y
    rw [List.sum_cons, List.sum_cons]
    omega
  | a :: r, j + 1, z, y, h => by
    have ih := sum_set (l := r) (j := j) (z := z) (y := y) h
    show (a :: r.set j y).sum = (a :: r).sum - z + y
    rw [List.sum_cons, List.sum_cons, ih]
    omega
theorem sum_take : ∀ {l : List Int} {i : Nat} {z : Int}, l[i]? = some z → (l.take (i + 1)).sum = (l.take i).sum + z
  | [], i, z, h => by simp at h
  | a :: r, 0, z, h => by
    have e : a = z := Option.some.inj h
    subst e
    show ([a] : List Int).sum = ([] : List Int).sum + a
    rw [List.sum_cons]
    exact Int.add_comm _ _
  | a :: r, i + 1, z, h => by
    have ih := sum_take (l := r) (i := i) (z := z) h
    show (a :: r.take (i + 1)).sum = (a :: r.take i).sum + z
    rw [List.sum_cons, List.sum_cons, ih]
    omega
/-- a new instance and its __init__ leave all that was tracked as it was -/
theorem Same.made {H H1 : Hp} {x dx C : Addr} (nx : H x = Option.none) (nd : H dx = Option.none) (k : ∀ b o, (upd (upd H dx (.own x)) x (.ins C dx [])) b = some o → b ≠ x → H1 b = some o) : Same H H1 := fun b o e =>
  k b o (by rw [upd_ne (ne_of_none e nx), upd_ne (ne_of_none e nd)]; exact e) (ne_of_none e nx)
end L2
set_option Elab.async false
set_option linter.all false
set_option maxRecDepth 100000
/-! A small language over plain data, its evaluator. Lists that are changed stand in cells of a store; all others are data. -/
namespace Ev
open PySem L2

inductive U where
  | d (x : PyData)
  | c (n : Nat)
  | s

abbrev Sto := List (List PyData)
abbrev En := List (Option U)

/-- what comes out: a value, an exception of a class, nothing that is known -/
inductive R (α : Type) where
  | ok (a : α) (S : Sto)
  | exc (c : Str) (S : Sto)
  | bad

def R.bd {α β : Type} : R α → (α → Sto → R β) → R β
  | .ok a S, f => f a S
  | .exc c S, _ => .exc c S
  | .bad, _ => .bad
/-- .. where none may be raised -/
def R.bn {α β : Type} : R α → (α → Sto → R β) → R β
  | .ok a S, f => f a S
  | _, _ => .bad
def R.wp {α : Type} (r : R α) (P : α → Sto → Prop) (Px : Str → Sto → Prop) : Prop := match r with
  | .ok a S => P a S
  | .exc c S => Px c S
  | .bad => False
theorem wp_bd {α β : Type} {r : R α} {f : α → Sto → R β} {P : β → Sto → Prop} {Px : Str → Sto → Prop} (h : (r.bd f).wp P Px) : r.wp (fun a S => (f a S).wp P Px) Px := by cases r <;> exact h
theorem wp_bd' {α β : Type} {r : R α} {f : α → Sto → R β} {P : β → Sto → Prop} {Px : Str → Sto → Prop} (h : r.wp (fun a S => (f a S).wp P Px) Px) : (r.bd f).wp P Px := by cases r <;> exact h
theorem wp_bn {α β : Type} {r : R α} {f : α → Sto → R β} {P : β → Sto → Prop} {Px : Str → Sto → Prop} (h : (r.bn f).wp P Px) : r.wp (fun a S => (f a S).wp P Px) (fun _ _ => False) := by cases r <;> exact h
theorem R.wp.mono {α : Type} {r : R α} {P P' : α → Sto → Prop} {Px Px' : Str → Sto → Prop} (h : r.wp P Px) (k : ∀ a S, P a S → P' a S) (kx : ∀ c S, Px c S → Px' c S) : r.wp P' Px' := by
  cases r with
  | ok a S => exact k a S h
  | exc c S => exact kx c S h
  | bad => exact h
def R.of {α : Type} (S : Sto) : Option α → R α
  | some a => .ok a S
  | none => .bad
@[simp] theorem bd_ok {α β : Type} (a : α) (S : Sto) (f : α → Sto → R β) : (R.ok a S).bd f = f a S := id rfl
@[simp] theorem bd_exc {α β : Type} (c : Str) (S : Sto) (f : α → Sto → R β) : (R.exc c S : R α).bd f = .exc c S := id rfl
@[simp] theorem bn_ok {α β : Type} (a : α) (S : Sto) (f : α → Sto → R β) : (R.ok a S).bn f = f a S := id rfl
@[simp] theorem bd_bad {α β : Type} (f : α → Sto → R β) : (R.bad : R α).bd f = .bad := id rfl
@[simp] theorem of_some {α : Type} (S : Sto) (a : α) : R.of S (some a) = .ok a S := id rfl
@[simp] theorem of_none {α : Type} (S : Sto) : R.of S (none : Option α) = .bad := id rfl
theorem bd_inv {α β : Type} {r : R α} {f : α → Sto → R β} {b : β} {S' : Sto} (h : r.bd f = .ok b S') : ∃ a S1, r = .ok a S1 ∧ f a S1 = .ok b S' := by
  cases r with
  | ok a S1 => exact ⟨a, S1, rfl, h⟩
  | exc c S => cases h
  | bad => cases h
theorem bn_inv {α β : Type} {r : R α} {f : α → Sto → R β} {b : β} {S' : Sto} (h : r.bn f = .ok b S') : ∃ a S1, r = .ok a S1 ∧ f a S1 = .ok b S' := by
  cases r with
  | ok a S1 => exact ⟨a, S1, rfl, h⟩
  | exc c S => cases h
  | bad => cases h
theorem bn_wp {α β : Type} {r : R α} {f : α → Sto → R β} {P : β → Sto → Prop} {Px : Str → Sto → Prop} (h : (r.bn f).wp P Px) : ∃ a S1, r = .ok a S1 ∧ (f a S1).wp P Px := by
  cases r with
  | ok a S1 => exact ⟨a, S1, rfl, h⟩
  | exc c S => exact h.elim
  | bad => exact h.elim
theorem of_wp {α : Type} {S : Sto} {o : Option α} {P : α → Sto → Prop} {Px : Str → Sto → Prop} (h : (R.of S o).wp P Px) : ∃ a, o = some a ∧ P a S := by
  cases o with
  | some x => exact ⟨x, rfl, h⟩
  | none => exact h.elim
theorem of_bd {α β : Type} {S : Sto} {o : Option α} {f : α → Sto → R β} {P : β → Sto → Prop} {Px : Str → Sto → Prop} (h : ((R.of S o).bd f).wp P Px) : ∃ a, o = some a ∧ (f a S).wp P Px := of_wp (wp_bd h)
theorem of_inv {α : Type} {S S' : Sto} {o : Option α} {a : α} (h : R.of S o = .ok a S') : o = some a ∧ S' = S := by
  cases o with
  | some x => cases h; exact ⟨rfl, rfl⟩
  | none => cases h

/-- what a value reads as -/
@[simp] def rd (sc : List Int) (S : Sto) : U → Option PyData
  | .d x => some x
  | .c n => (S[n]?).map PyData.list
  | .s => some (.list (sc.map PyData.int))
/-- the script's own list apart -/
@[simp] def rdN (S : Sto) : U → Option PyData
  | .d x => some x
  | .c n => (S[n]?).map PyData.list
  | .s => none
@[simp] def asD : U → Option PyData
  | .d x => some x
  | _ => none

@[simp] def truP : PyData → Option Bool
  | .none => some false
  | .bool b => some b
  | .int i => some (i != 0)
  | .str y => if y.length ≤ sizeLine then some ((y.length : Int) != 0) else none
  | .list xs => some (!xs.isEmpty)
  | .tuple xs => some (!xs.isEmpty)
  | .dict _ => none

inductive Bop where
  | add | sub | mul | fdiv | mod
  deriving DecidableEq
@[simp] def Bop.op : Bop → Operator
  | .add => .Add
  | .sub => .Sub
  | .mul => .Mult
  | .fdiv => .FloorDiv
  | .mod => .Mod
/-- a product of which one factor is not too great -/
def mulOk (i j : Int) : Bool := (decide (-(2 ^ 64) < i) && decide (i < 2 ^ 64)) || (decide (-(2 ^ 64) < j) && decide (j < 2 ^ 64))
def divOk (j : Int) : Bool := decide (0 < j) && decide (j < 1073741824)
def bop : Bop → PyData → PyData → Option PyData
  | .add, .int i, .int j => some (.int (i + j))
  | .add, .str a, .str b => if a.length + b.length ≤ sizeLine then some (.str (a ++ b)) else none
  | .add, .list a, .list b => if a.length + b.length ≤ sizeLine then some (.list (a ++ b)) else none
  | .sub, .int i, .int j => some (.int (i - j))
  | .mul, .int i, .int j => if mulOk i j then some (.int (i * j)) else none
  | .fdiv, .int i, .int j => if divOk j then some (.int (i / j)) else none
  | .mod, .int i, .int j => if 0 < j then some (.int (i % j)) else none
  | _, _, _ => none

@[simp] theorem bop_add (i j : Int) : bop .add (.int i) (.int j) = some (.int (i + j)) := id rfl
@[simp] theorem bop_sub (i j : Int) : bop .sub (.int i) (.int j) = some (.int (i - j)) := id rfl
@[simp] theorem bop_mul {i j : Int} (h : mulOk i j = true) : bop .mul (.int i) (.int j) = some (.int (i * j)) := by simp [bop, h]
@[simp] theorem bop_div {i j : Int} (h : divOk j = true) : bop .fdiv (.int i) (.int j) = some (.int (i / j)) := by simp [bop, h]
@[simp] theorem bop_mod {i j : Int} (h : 0 < j) : bop .mod (.int i) (.int j) = some (.int (i % j)) := by simp [bop, h]
@[simp] theorem bop_cat {a b : List PyData} (h : a.length + b.length ≤ sizeLine) : bop .add (.list a) (.list b) = some (.list (a ++ b)) := by simp [bop, h]
@[simp] theorem bop_str {a b : Str} (h : a.length + b.length ≤ sizeLine) : bop .add (.str a) (.str b) = some (.str (a ++ b)) := by simp [bop, h]
inductive Cop where
  | eq | ne | lt | le | gt | ge | inn | nin
  deriving DecidableEq
@[simp] def Cop.op : Cop → CmpOp
  | .eq => .Eq
  | .ne => .NotEq
  | .lt => .Lt
  | .le => .LtE
  | .gt => .Gt
  | .ge => .GtE
  | .inn => .In
  | .nin => .NotIn
@[simp] def flatP : PyData → Bool
  | .none | .bool _ | .int _ | .str _ => true
  | _ => false
@[simp] def eqf : PyData → PyData → Bool
  | .none, .none => true
  | .bool a, .bool b => a == b
  | .bool a, .int b => (if a then 1 else 0) == b
  | .int a, .bool b => a == (if b then 1 else 0)
  | .int a, .int b => a == b
  | .str a, .str b => a == b
  | _, _ => false
@[simp] def inP (x : PyData) : PyData → Option Bool
  | .list ys => if flatP x && ys.all flatP then some (ys.any fun y => eqf y x) else none
  | .tuple ys => if flatP x && ys.all flatP then some (ys.any fun y => eqf y x) else none
  | .str j => match x with
    | .str i => some (!(Builtin.Str.occurrences j i 0 j.length 1).isEmpty)
    | _ => none
  | _ => none
@[simp] def cop : Cop → PyData → PyData → Option Bool
  | .eq, a, b => if SeqAt.shaped a && SeqAt.shaped b then some (PyData.eqv a b) else none
  | .ne, a, b => if SeqAt.shaped a && SeqAt.shaped b then some (!PyData.eqv a b) else none
  | .lt, .int i, .int j => some (decide (i < j))
  | .le, .int i, .int j => some (decide (i ≤ j))
  | .gt, .int i, .int j => some (decide (j < i))
  | .ge, .int i, .int j => some (decide (j ≤ i))
  | .inn, a, b => inP a b
  | .nin, a, b => (inP a b).map (!·)
  | _, _, _ => none

inductive Ty where
  | int | bool | str | tuple | list
  deriving DecidableEq
def Ty.name : Ty → String
  | .int => "int"
  | .bool => "bool"
  | .str => "str"
  | .tuple => "tuple"
  | .list => "list"
@[simp] def isTy : Ty → PyData → Option Bool
  | _, .dict _ => none
  | .int, .int _ => some true
  | .int, .bool _ => some true
  | .bool, .bool _ => some true
  | .str, .str _ => some true
  | .tuple, .tuple _ => some true
  | .list, .list _ => some true
  | _, _ => some false

inductive Blt where
  | len | min2 | max2 | sum | all | any | tuple | list | abs | divmod
  deriving DecidableEq
def Blt.name : Blt → String
  | .len => "len"
  | .min2 => "min"
  | .max2 => "max"
  | .sum => "sum"
  | .all => "all"
  | .any => "any"
  | .tuple => "tuple"
  | .list => "list"
  | .abs => "abs"
  | .divmod => "divmod"
@[simp] def intsOf : List PyData → Option (List Int)
  | [] => some []
  | .int i :: r => (intsOf r).map (i :: ·)
  | _ => none
@[simp] def bitsOf : List PyData → Option (List Bool)
  | [] => some []
  | .bool i :: r => (bitsOf r).map (i :: ·)
  | _ => none
@[simp] def bLen : List PyData → Option PyData
  | [.list xs] => some (.int xs.length)
  | [.tuple xs] => some (.int xs.length)
  | [.str z] => if z.length ≤ sizeLine then some (.int z.length) else none
  | _ => none
@[simp] def bMin : List PyData → Option PyData
  | [.int m, .int n] => some (.int (if n < m then n else m))
  | [.tuple xs, .tuple ys] => match intsOf xs, intsOf ys with
    | some ns, some ms => some (if HT.lexLt ms ns then .tuple ys else .tuple xs)
    | _, _ => none
  | _ => none
@[simp] def bMax : List PyData → Option PyData
  | [.int m, .int n] => some (.int (if n > m then n else m))
  | _ => none
@[simp] def bSum : List PyData → Option PyData
  | [.list xs] => (intsOf xs).map fun ns => .int ns.sum
  | _ => none
@[simp] def bAll : List PyData → Option PyData
  | [.list xs] => (bitsOf xs).map fun bs => .bool (bs.all id)
  | _ => none
@[simp] def bAny : List PyData → Option PyData
  | [.list xs] => (bitsOf xs).map fun bs => .bool (bs.any id)
  | _ => none
@[simp] def bTup : List PyData → Option PyData
  | [.list xs] => some (.tuple xs)
  | [.tuple xs] => some (.tuple xs)
  | _ => none
@[simp] def bLst : List PyData → Option PyData
  | [.list xs] => some (.list xs)
  | [.tuple xs] => some (.list xs)
  | _ => none
@[simp] def bAbs : List PyData → Option PyData
  | [.int n] => some (.int (if n < 0 then -n else n))
  | _ => none
@[simp] def bDvm : List PyData → Option PyData
  | [.int i, .int j] => if divOk j then some (.tuple [.int (i / j), .int (i % j)]) else none
  | _ => none
@[simp] def blt : Blt → List PyData → Option PyData
  | .len => bLen
  | .min2 => bMin
  | .max2 => bMax
  | .sum => bSum
  | .all => bAll
  | .any => bAny
  | .tuple => bTup
  | .list => bLst
  | .abs => bAbs
  | .divmod => bDvm

@[simp] def ixP : PyData → PyData → Option PyData
  | .list xs, .int i => atI xs i
  | .tuple xs, .int i => atI xs i
  | .str z, .int i => if z.length ≤ sizeLine then (atI z.cps.toList i).map fun c => .str ⟨#[c]⟩ else none
  | _, _ => none

/-- same data, sign by sign -/
def sameP : PyData → PyData → Bool
  | .none, .none => true
  | .bool a, .bool b => a == b
  | .int a, .int b => a == b
  | .str a, .str b => decide (a = b)
  | .list a, .list b => go a b
  | .tuple a, .tuple b => go a b
  | _, _ => false
where go : List PyData → List PyData → Bool
  | [], [] => true
  | x :: xs, y :: ys => sameP x y && go xs ys
  | _, _ => false

/-- what a value is stored to -/
inductive G where
  | nm (i : Nat)
  | tp (is : List Nat)
@[simp] def G.slots : G → List Nat
  | .nm i => [i]
  | .tp is => is
@[simp] def setAll : List Nat → List PyData → En → Option En
  | [], [], σ => some σ
  | i :: is, x :: xs, σ => setAll is xs (σ.set i (some (.d x)))
  | _, _, _ => none
@[simp] def G.put : G → U → En → Option En
  | .nm i, u, σ => some (σ.set i (some u))
  | .tp is, .d (.tuple xs), σ => setAll is xs σ
  | _, _, _ => none
@[simp] def wipeU (σ : En) : List Nat → En
  | [] => σ
  | v :: vs => (wipeU σ vs).set v none

mutual
inductive E where
  | var (i : Nat)
  | int (i : Int)
  | bl (b : Bool)
  | non
  | str (x : Str)
  | glob (x : Str) (c : PyData)
  | bin (o : Bop) (a b : E)
  | neg (a : E)
  | cmp (o : Cop) (a b : E)
  | chn (o o' : Cop) (a b c : E)
  | isN (neg : Bool) (a : E)
  | and (as : Es)
  | or (as : Es)
  | not (a : E)
  | ife (c a b : E)
  | tup (as : Es)
  | lst (as : Es)
  | ix (a i : E)
  | call (f : Nat) (as : Es)
  | blt (b : Blt) (as : Es)
  | isi (a : E) (t : Ty)
  | lc (e : E) (g : G) (it : I) (ts : Es)
  | bad
inductive Es where
  | nil
  | cons (a : E) (as : Es)
inductive I where
  | seq (e : E)
  | rng1 (a : E)
  | rng2 (a b : E)
  | zip (a b : E)
end
def I.pairs : I → Bool
  | .zip _ _ => true
  | _ => false
inductive Kd where
  | l | t
def asSeq : U → Option (Kd × List PyData)
  | .d (.list xs) => some (.l, xs)
  | .d (.tuple xs) => some (.t, xs)
  | _ => none
def zipP : List PyData → List PyData → List PyData
  | x :: xs, y :: ys => .tuple [x, y] :: zipP xs ys
  | _, _ => []

mutual
inductive T where
  | asg (g : G) (e : E)
  | cell (i : Nat) (as : Es)
  | aug (i : Nat) (o : Bop) (e : E)
  | app (i : Nat) (e : E)
  | drop (e : E)
  | ret (e : E)
  | retN
  | ife (c : E) (a b : Ts)
  | whl (c : E) (b : Ts)
  | rse (c : Str) (as : Es)
  | tri (b : Ts) (c : Str) (cs : List Str) (h : Ts)
  | for (g : G) (it : I) (b : Ts)
  | brk
  | cnt
  | pas
  | bad
inductive Ts where
  | nil
  | cons (s : T) (r : Ts)
end

def truU (sc : List Int) (u : U) (S : Sto) : R Bool := .of S ((rd sc S u).bind truP)
@[simp] def ckC (S : Sto) (items : List PyData) : Option Nat → Bool
  | none => true
  | some n => match S[n]? with
    | some ys => sameP.go ys items
    | none => false
/-- the items from a number on -/
def rngP (lo : Int) : Nat → List PyData
  | 0 => []
  | n + 1 => .int lo :: rngP (lo + 1) n
def lcL (te : En → Sto → R U) (tt : En → Sto → R Bool) (g : G) (ck : Option Nat) (all : List PyData) (σ : En) : List PyData → Sto → List PyData → R (List PyData)
  | [], S, acc => if ckC S all ck then .ok acc S else .bad
  | x :: r, S, acc => if ckC S all ck then match g.put (.d x) σ with
      | none => .bad
      | some σ2 => (tt σ2 S).bn fun b S2 => if b then (te σ2 S2).bn fun u S3 => match asD u with
          | none => .bad
          | some y => if acc.length < sizeLine then lcL te tt g ck all σ r S3 (acc ++ [y]) else .bad
        else lcL te tt g ck all σ r S2 acc
    else .bad
def small62 (i : Int) : Bool := decide (-(2 ^ 62) ≤ i) && decide (i < 2 ^ 62)
@[simp] def itemsOf (sc : List Int) (u : U) (S : Sto) : R (List PyData × Option Nat) := match u with
  | .d (.list xs) => .ok (xs, none) S
  | .d (.tuple xs) => .ok (xs, none) S
  | .c n => .of S ((S[n]?).map fun xs => (xs, some n))
  | .s => .ok (sc.map PyData.int, none) S
  | _ => .bad

section
variable (F : Nat → List U → Sto → R U) (sc : List Int)
mutual
def ev : E → En → Sto → R U
  | .var i => fun σ S => match σ[i]? with
    | some (some u) => .ok u S
    | _ => .bad
  | .int i => fun _ S => .ok (.d (.int i)) S
  | .bl b => fun _ S => .ok (.d (.bool b)) S
  | .non => fun _ S => .ok (.d .none) S
  | .str x => fun _ S => .ok (.d (.str x)) S
  | .glob _ c => fun _ S => .ok (.d c) S
  | .bin o a b => fun σ S => (ev a σ S).bd fun x S1 => (ev b σ S1).bd fun y S2 =>
      match rdN S2 x, rdN S2 y with
      | some p, some q => (R.of S2 (bop o p q)).bd fun r S3 => .ok (.d r) S3
      | _, _ => .bad
  | .neg a => fun σ S => (ev a σ S).bd fun x S1 => match x with
      | .d (.int i) => .ok (.d (.int (-i))) S1
      | _ => .bad
  | .cmp o a b => fun σ S => (ev a σ S).bd fun x S1 => (ev b σ S1).bd fun y S2 =>
      match rd sc S2 x, rd sc S2 y with
      | some p, some q => (R.of S2 (cop o p q)).bd fun r S3 => .ok (.d (.bool r)) S3
      | _, _ => .bad
  | .chn o o' a b c => fun σ S => (ev a σ S).bd fun x S1 => (ev b σ S1).bd fun y S2 =>
      match rd sc S2 x, rd sc S2 y with
      | some p, some q => (R.of S2 (cop o p q)).bd fun r S3 => if r then (ev c σ S3).bd fun z S4 => match rd sc S4 y, rd sc S4 z with
          | some q', some t => (R.of S4 (cop o' q' t)).bd fun r S5 => .ok (.d (.bool r)) S5
          | _, _ => .bad
        else .ok (.d (.bool false)) S3
      | _, _ => .bad
  | .isN neg a => fun σ S => (ev a σ S).bd fun x S1 => match x with
      | .d .none => .ok (.d (.bool !neg)) S1
      | _ => .ok (.d (.bool neg)) S1
  | .and as => evAnd as
  | .or as => evOr as
  | .not a => fun σ S => ((ev a σ S).bd (truU sc)).bd fun c S1 => .ok (.d (.bool !c)) S1
  | .ife c a b => fun σ S => ((ev c σ S).bd (truU sc)).bd fun t S1 => if t then ev a σ S1 else ev b σ S1
  | .tup as => fun σ S => (evs as σ S).bd fun us S1 => match us.mapM asD with
      | some xs => if xs.length ≤ sizeLine then .ok (.d (.tuple xs)) S1 else .bad
      | none => .bad
  | .lst as => fun σ S => (evs as σ S).bd fun us S1 => match us.mapM asD with
      | some xs => if xs.length ≤ sizeLine then .ok (.d (.list xs)) S1 else .bad
      | none => .bad
  | .ix a i => fun σ S => (ev a σ S).bd fun x S1 => (ev i σ S1).bd fun y S2 =>
      match rd sc S2 x, rd sc S2 y with
      | some p, some q => (R.of S2 (ixP p q)).bd fun r S3 => .ok (.d r) S3
      | _, _ => .bad
  | .call f as => fun σ S => (evs as σ S).bd fun us S1 => F f us S1
  | .blt b as => fun σ S => (evs as σ S).bd fun us S1 => match us.mapM (rd sc S1) with
      | some xs => (R.of S1 (Ev.blt b xs)).bd fun r S2 => .ok (.d r) S2
      | none => .bad
  | .isi a t => fun σ S => (ev a σ S).bd fun x S1 => match rd sc S1 x with
      | some p => (R.of S1 (isTy t p)).bd fun r S2 => .ok (.d (.bool r)) S2
      | none => .bad
  | .lc e g it ts => fun σ S => (evI it σ S).bd fun its S1 =>
      (lcL (ev e) (evTs ts) g its.2 its.1 (wipeU σ g.slots) its.1 S1 []).bn fun xs S2 => .ok (.d (.list xs)) S2
  | .bad => fun _ _ => .bad
def evs : Es → En → Sto → R (List U)
  | .nil => fun _ S => .ok [] S
  | .cons a as => fun σ S => (ev a σ S).bd fun u S1 => (evs as σ S1).bd fun us S2 => .ok (u :: us) S2
def evAnd : Es → En → Sto → R U
  | .nil => fun _ _ => .bad
  | .cons a as => fun σ S => match as with
    | .nil => ev a σ S
    | .cons _ _ => (ev a σ S).bd fun u S1 => (truU sc u S1).bd fun c S2 => if c then evAnd as σ S2 else .ok u S2
def evOr : Es → En → Sto → R U
  | .nil => fun _ _ => .bad
  | .cons a as => fun σ S => match as with
    | .nil => ev a σ S
    | .cons _ _ => (ev a σ S).bd fun u S1 => (truU sc u S1).bd fun c S2 => if c then .ok u S2 else evOr as σ S2
def evTs : Es → En → Sto → R Bool
  | .nil => fun _ S => .ok true S
  | .cons a as => fun σ S => match as with
    | .nil => (ev a σ S).bd (truU sc)
    | .cons _ _ => .bad
def evI : I → En → Sto → R (List PyData × Option Nat)
  | .seq e => fun σ S => (ev e σ S).bd (itemsOf sc)
  | .rng1 a => fun σ S => (ev a σ S).bd fun x S1 => match x with
      | .d (.int j) => if small62 j then .ok (rngP 0 j.toNat, none) S1 else .bad
      | _ => .bad
  | .rng2 a b => fun σ S => (ev a σ S).bd fun x S1 => (ev b σ S1).bd fun y S2 => match x, y with
      | .d (.int i), .d (.int j) => if small62 i && small62 j then .ok (rngP i (j - i).toNat, none) S2 else .bad
      | _, _ => .bad
  | .zip a b => fun σ S => (ev a σ S).bd fun x S1 => (ev b σ S1).bd fun y S2 => match asSeq x, asSeq y with
      | some (_, xs), some (_, ys) => .ok (zipP xs ys, none) S2
      | _, _ => .bad
end
def tv (e : E) (σ : En) (S : Sto) : R Bool := (ev F sc e σ S).bd (truU sc)

inductive Fl where
  | nx (σ : En)
  | ret (u : U)
  | brk (σ : En)
  | cnt (σ : En)
  | exc (c : Str) (σ : En)
/-- an expression of a statement -/
def R.sx {α : Type} (σ : En) : R α → (α → Sto → R Fl) → R Fl
  | .ok a S, f => f a S
  | .exc c S, _ => .ok (.exc c σ) S
  | .bad, _ => .bad
@[simp] theorem sx_ok {α : Type} (σ : En) (a : α) (S : Sto) (f : α → Sto → R Fl) : (R.ok a S).sx σ f = f a S := id rfl
@[simp] theorem sx_exc {α : Type} (σ : En) (c : Str) (S : Sto) (f : α → Sto → R Fl) : (R.exc c S : R α).sx σ f = .ok (.exc c σ) S := id rfl
theorem wp_sx {α : Type} {σ : En} {r : R α} {f : α → Sto → R Fl} {P : Fl → Sto → Prop} {Px : Str → Sto → Prop} (h : (r.sx σ f).wp P Px) : r.wp (fun a S => (f a S).wp P Px) (fun c S => P (.exc c σ) S) := by cases r <;> exact h

/-- no exception in a handler -/
def noEx (r : R Fl) : R Fl := r.bd fun fl S => match fl with
  | .exc _ _ => .bad
  | fl => .ok fl S
@[simp] theorem noEx_nx (σ : En) (S : Sto) : noEx (.ok (.nx σ) S) = .ok (.nx σ) S := id rfl
@[simp] theorem noEx_ret (u : U) (S : Sto) : noEx (.ok (.ret u) S) = .ok (.ret u) S := id rfl
@[simp] theorem noEx_brk (σ : En) (S : Sto) : noEx (.ok (.brk σ) S) = .ok (.brk σ) S := id rfl
@[simp] theorem noEx_cnt (σ : En) (S : Sto) : noEx (.ok (.cnt σ) S) = .ok (.cnt σ) S := id rfl
def forL (body : En → Sto → R Fl) (g : G) (ck : Option Nat) (all : List PyData) : List PyData → En → Sto → R Fl
  | [], σ, S => if ckC S all ck then .ok (.nx σ) S else .bad
  | x :: r, σ, S => if ckC S all ck then match g.put (.d x) σ with
      | none => .bad
      | some σ2 => (body σ2 S).bd fun fl S2 => match fl with
        | .nx σ3 => forL body g ck all r σ3 S2
        | .cnt σ3 => forL body g ck all r σ3 S2
        | .brk σ3 => .ok (.nx σ3) S2
        | .ret u => .ok (.ret u) S2
        | .exc c σ3 => .ok (.exc c σ3) S2
    else .bad
def whlL (tst : En → Sto → R Bool) (body : En → Sto → R Fl) : Nat → En → Sto → R Fl
  | 0, _, _ => .bad
  | n + 1, σ, S => (tst σ S).sx σ fun c S1 => if c then (body σ S1).bd fun fl S2 => match fl with
        | .nx σ3 => whlL tst body n σ3 S2
        | .cnt σ3 => whlL tst body n σ3 S2
        | .brk σ3 => .ok (.nx σ3) S2
        | .ret u => .ok (.ret u) S2
        | .exc c σ3 => .ok (.exc c σ3) S2
      else .ok (.nx σ) S1
/-! fu: the turns of a while at the most -/
variable (fu : Nat)
mutual
def ex : T → En → Sto → R Fl
  | .asg g e => fun σ S => (ev F sc e σ S).sx σ fun u S1 => (R.of S1 (g.put u σ)).bd fun σ2 S2 => .ok (.nx σ2) S2
  | .cell i as => fun σ S => (evs F sc as σ S).sx σ fun us S1 => match us.mapM asD with
      | some xs => if xs.length ≤ sizeLine then .ok (.nx (σ.set i (some (.c S1.length)))) (S1 ++ [xs]) else .bad
      | none => .bad
  | .aug i o e => fun σ S => match σ[i]? with
      | some (some (.d (.int x))) => (ev F sc e σ S).sx σ fun u S1 => match o, u with
        | .add, .d (.int y) => .ok (.nx (σ.set i (some (.d (.int (x + y)))))) S1
        | .sub, .d (.int y) => .ok (.nx (σ.set i (some (.d (.int (x - y)))))) S1
        | _, _ => .bad
      | _ => .bad
  | .app i e => fun σ S => match σ[i]? with
      | some (some (.c n)) => (ev F sc e σ S).sx σ fun u S1 => match asD u, S1[n]? with
        | some y, some xs => if xs.length < sizeLine then .ok (.nx σ) (S1.set n (xs ++ [y])) else .bad
        | _, _ => .bad
      | _ => .bad
  | .drop e => fun σ S => (ev F sc e σ S).sx σ fun _ S1 => .ok (.nx σ) S1
  | .ret e => fun σ S => (ev F sc e σ S).sx σ fun u S1 => .ok (.ret u) S1
  | .retN => fun _ S => .ok (.ret (.d .none)) S
  | .ife c a b => fun σ S => (tv F sc c σ S).sx σ fun t S1 => if t then exs a σ S1 else exs b σ S1
  | .whl c b => fun σ S => whlL (tv F sc c) (exs b) fu σ S
  | .rse c as => fun σ S => (evs F sc as σ S).sx σ fun us S1 => if us.length ≤ sizeLine then .ok (.exc c σ) S1 else .bad
  | .tri b _ cs h => fun σ S => (exs b σ S).bd fun fl S1 => match fl with
      | .exc d σ2 => if cs.any fun y => decide (y = d) then noEx (exs h σ2 S1) else .bad
      | fl => .ok fl S1
  | .for g it b => fun σ S => (evI F sc it σ S).sx σ fun its S1 => forL (exs b) g its.2 its.1 its.1 σ S1
  | .brk => fun σ S => .ok (.brk σ) S
  | .cnt => fun σ S => .ok (.cnt σ) S
  | .pas => fun σ S => .ok (.nx σ) S
  | .bad => fun _ _ => .bad
def exs : Ts → En → Sto → R Fl
  | .nil => fun σ S => .ok (.nx σ) S
  | .cons s r => fun σ S => (ex s σ S).bd fun fl S1 => match fl with
      | .nx σ2 => exs r σ2 S1
      | .ret u => .ok (.ret u) S1
      | .brk σ2 => .ok (.brk σ2) S1
      | .cnt σ2 => .ok (.cnt σ2) S1
      | .exc c σ2 => .ok (.exc c σ2) S1
end
end

/-- a def: its parameters, all its names, its body -/
structure Fn where
  name : Str
  ps : Nat
  N : List Str
  body : Ts

def frz (k : Nat) (S : Sto) : U → Option U
  | .c n => if n < k then some (.c n) else (S[n]?).map fun xs => .d (.list xs)
  | u => some u
def entry (N : Nat) (us : List U) : En := us.map some ++ List.replicate (N - us.length) none
def run (sc : List Int) (fu : Nat) (tab : Nat → Option Fn) : Nat → Nat → List U → Sto → R U
  | 0, _, _, _ => .bad
  | n + 1, f, us, S => match tab f with
    | none => .bad
    | some fn => if us.length = fn.ps then (exs (run sc fu tab n) sc fu fn.body (entry fn.N.length us) S).bn fun fl S1 => match fl with
        | .ret u => (R.of S1 (frz S.length S1 u)).bd fun v S2 => .ok v (S2.take S.length)
        | .nx _ => .ok (.d .none) (S1.take S.length)
        | .exc c _ => .exc c (S1.take S.length)
        | _ => .bad
      else .bad
end Ev

set_option Elab.async false
set_option linter.all false
set_option maxRecDepth 100000
namespace Ev
open PySem L2
open PyProof.Rows hiding St

/-- where the cells stand; and what is hidden: no value knows it -/
structure Ad where
  c : List Addr
  x : List Addr
def Ad.ex (ρ : Ad) : List Addr := ρ.c ++ ρ.x
theorem Ad.mem {ρ : Ad} {a : Addr} : a ∈ ρ.ex ↔ a ∈ ρ.c ∨ a ∈ ρ.x := List.mem_append
section
variable (K : PySem.W.Frag)
/-- a tuple of the module -/
def KTup (a : Addr) (xs : List V) : Prop := ∃ (o : Obj) (its : Array Value) (n : Nat), K.lookup a = some o ∧ o.cls = .type "tuple" ∧ o.data = .seq its n ∧ its.size ≤ sizeLine ∧ Vals xs its.toList
mutual
inductive DR (ρ : Ad) (H : Hp) : V → PyData → Prop
  | non : DR ρ H .non .none
  | bl (b : Bool) : DR ρ H (.bl b) (.bool b)
  | int (i : Int) : DR ρ H (.int i) (.int i)
  | str (x : Str) : DR ρ H (.str x) (.str x)
  | lst {a : Addr} {xs : List V} {ds : List PyData} : Rd H a (.lst xs) → ¬ a ∈ ρ.ex → DRs ρ H xs ds → DR ρ H (.ref a) (.list ds)
  | tup {a : Addr} {xs : List V} {ds : List PyData} : Rd H a (.tup xs) → ¬ a ∈ ρ.ex → DRs ρ H xs ds → DR ρ H (.ref a) (.tuple ds)
  | ktup {a : Addr} {xs : List V} {ds : List PyData} : KTup K a xs → DRs ρ H xs ds → DR ρ H (.ref a) (.tuple ds)
inductive DRs (ρ : Ad) (H : Hp) : List V → List PyData → Prop
  | nil : DRs ρ H [] []
  | cons {v : V} {vs : List V} {d : PyData} {ds : List PyData} : DR ρ H v d → DRs ρ H vs ds → DRs ρ H (v :: vs) (d :: ds)
end
variable (sc : List Int)
def RU (ρ : Ad) (H : Hp) : U → V → Prop
  | .d x, v => DR K ρ H v x
  | .c n, v => ∃ a, ρ.c[n]? = some a ∧ v = .ref a
  | .s, v => ∃ a, v = .ref a ∧ ((¬ a ∈ ρ.ex ∧ Rd H a (.lst (sc.map V.int))) ∨ ∀ H', SqL K H' a (sc.map V.int))
structure StR (ρ : Ad) (H : Hp) (S : Sto) : Prop where
  len : ρ.c.length = S.length
  nd : ρ.c.Nodup
  cs : ∀ (n : Nat) (xs : List PyData), S[n]? = some xs → ∃ a vs, ρ.c[n]? = some a ∧ H a = some (.lst vs) ∧ DRs K ρ H vs xs
  hid : ∀ a ∈ ρ.x, ¬ a ∈ ρ.c ∧ ∃ o, H a = some o
structure EnR (ρ : Ad) (H : Hp) (σu : En) (σ : St) : Prop where
  len : σ.length = σu.length
  vs : ∀ (i : Nat) (u : U), σu[i]? = some (some u) → ∃ v, σ[i]? = some (some v) ∧ RU K sc ρ H u v
end
/-- what is no cell stays -/
def Kp (ρ : Ad) (H H' : Hp) : Prop := ∀ a o, ¬ a ∈ ρ.c → H a = some o → H' a = some o
theorem Kp.refl {ρ : Ad} {H : Hp} : Kp ρ H H := fun _ _ _ h => h
theorem Kp.trans {ρ : Ad} {H H1 H2 : Hp} (a : Kp ρ H H1) (b : Kp ρ H1 H2) : Kp ρ H H2 := fun c o n h => b c o n (a c o n h)
theorem Kp.new {ρ : Ad} {H : Hp} {p : Addr} {o : HO} (h : H p = none) : Kp ρ H (upd H p o) := fun c o' _ e => by rw [upd_ne (ne_of_none e h)]; exact e

section
variable {K : PySem.W.Frag} {sc : List Int} {ρ ρ' : Ad} {H H' : Hp}
theorem Rd.kp (k : Kp ρ H H') {a : Addr} {u : HO} (n : ¬ a ∈ ρ.ex) (h : Rd H a u) : Rd H' a u := by
  have n' : ¬ a ∈ ρ.c := fun z => n (Ad.mem.mpr (.inl z))
  rcases h with h | ⟨o, h⟩
  · exact .inl (k _ _ n' h)
  · exact .inr ⟨o, k _ _ n' h⟩
mutual
theorem DR.kp (k : Kp ρ H H') : ∀ (d : PyData) (v : V), DR K ρ H v d → DR K ρ H' v d
  | .none, _, h => by cases h; exact .non
  | .bool b, _, h => by cases h; exact .bl b
  | .int i, _, h => by cases h; exact .int i
  | .str x, _, h => by cases h; exact .str x
  | .list ds, _, h => by
    cases h with
    | lst r n q => exact .lst (Rd.kp k n r) n (DRs.kp k ds _ q)
  | .tuple ds, _, h => by
    cases h with
    | tup r n q => exact .tup (Rd.kp k n r) n (DRs.kp k ds _ q)
    | ktup r q => exact .ktup r (DRs.kp k ds _ q)
  | .dict _, _, h => by cases h
theorem DRs.kp (k : Kp ρ H H') : ∀ (ds : List PyData) (vs : List V), DRs K ρ H vs ds → DRs K ρ H' vs ds
  | [], _, h => by cases h; exact .nil
  | d :: ds, _, h => by
    cases h with
    | cons a b => exact .cons (DR.kp k d _ a) (DRs.kp k ds _ b)
end
mutual
/-- other cells: those that are more are new -/
theorem DR.grow (k : ∀ a, a ∈ ρ'.ex → a ∈ ρ.ex ∨ H a = none) : ∀ (d : PyData) (v : V), DR K ρ H v d → DR K ρ' H v d
  | .none, _, h => by cases h; exact .non
  | .bool b, _, h => by cases h; exact .bl b
  | .int i, _, h => by cases h; exact .int i
  | .str x, _, h => by cases h; exact .str x
  | .list ds, _, h => by
    cases h with
    | @lst a xs _ r n q =>
      refine .lst r (fun z => ?_) (DRs.grow k ds _ q)
      rcases k a z with z | z
      · exact n z
      · rcases r with r | ⟨o, r⟩ <;> (rw [z] at r; cases r)
  | .tuple ds, _, h => by
    cases h with
    | @tup a xs _ r n q =>
      refine .tup r (fun z => ?_) (DRs.grow k ds _ q)
      rcases k a z with z | z
      · exact n z
      · rcases r with r | ⟨o, r⟩ <;> (rw [z] at r; cases r)
    | ktup r q => exact .ktup r (DRs.grow k ds _ q)
  | .dict _, _, h => by cases h
theorem DRs.grow (k : ∀ a, a ∈ ρ'.ex → a ∈ ρ.ex ∨ H a = none) : ∀ (ds : List PyData) (vs : List V), DRs K ρ H vs ds → DRs K ρ' H vs ds
  | [], _, h => by cases h; exact .nil
  | d :: ds, _, h => by
    cases h with
    | cons a b => exact .cons (DR.grow k d _ a) (DRs.grow k ds _ b)
end
theorem DRs.length : ∀ {ds : List PyData} {vs : List V}, DRs K ρ H vs ds → vs.length = ds.length
  | [], _, h => by cases h; rfl
  | d :: ds, _, h => by
    cases h with
    | cons a b => simp [DRs.length b]
theorem DRs.get : ∀ {ds : List PyData} {vs : List V} {i : Nat} {d : PyData}, DRs K ρ H vs ds → ds[i]? = some d → ∃ v, vs[i]? = some v ∧ DR K ρ H v d
  | [], _, _, _, h, e => by cases e
  | d :: ds, _, 0, _, h, e => by
    cases h with
    | cons a b => cases e; exact ⟨_, rfl, a⟩
  | d :: ds, _, i + 1, _, h, e => by
    cases h with
    | cons a b =>
      obtain ⟨v, h1, h2⟩ := DRs.get (i := i) b e
      exact ⟨v, h1, h2⟩
theorem DRs.app : ∀ {ds es : List PyData} {vs ws : List V}, DRs K ρ H vs ds → DRs K ρ H ws es → DRs K ρ H (vs ++ ws) (ds ++ es)
  | [], _, _, _, h, k => by cases h; exact k
  | d :: ds, _, _, _, h, k => by
    cases h with
    | cons a b => exact .cons a (DRs.app b k)
theorem DRs.at {ds : List PyData} {vs : List V} {i : Int} {d : PyData} (h : DRs K ρ H vs ds) (e : atI ds i = some d) : ∃ v, atI vs i = some v ∧ DR K ρ H v d := by
  unfold atI at e ⊢
  rw [h.length]
  cases q : ixN ds.length i with
  | none => rw [q] at e; cases e
  | some j =>
    rw [q] at e
    exact DRs.get h e
theorem RU.kp (k : Kp ρ H H') {u : U} {v : V} (h : RU K sc ρ H u v) : RU K sc ρ H' u v := by
  cases u with
  | d x => exact DR.kp k x v h
  | c n => exact h
  | s =>
    obtain ⟨a, e, ⟨n, q⟩ | q⟩ := h
    · exact ⟨a, e, .inl ⟨n, Rd.kp k n q⟩⟩
    · exact ⟨a, e, .inr q⟩
theorem EnR.kp (k : Kp ρ H H') {σu : En} {σ : St} (h : EnR K sc ρ H σu σ) : EnR K sc ρ H' σu σ :=
  ⟨h.len, fun i u e => by
    obtain ⟨v, e1, r⟩ := h.vs i u e
    exact ⟨v, e1, r.kp k⟩⟩
theorem EnR.set {σu : En} {σ : St} {u : U} {v : V} (h : EnR K sc ρ H σu σ) (i : Nat) (r : RU K sc ρ H u v) : EnR K sc ρ H (σu.set i (some u)) (σ.set i (some v)) := by
  refine ⟨by rw [List.length_set, List.length_set]; exact h.len, fun j w e => ?_⟩
  by_cases hj : i = j
  · subst hj
    by_cases hl : i < σu.length
    · rw [List.getElem?_set_self hl] at e
      cases e
      exact ⟨v, List.getElem?_set_self (by rw [h.len]; exact hl), r⟩
    · rw [List.getElem?_eq_none (by rw [List.length_set]; omega)] at e
      cases e
  · rw [List.getElem?_set_ne hj] at e
    obtain ⟨x, e1, r1⟩ := h.vs j w e
    exact ⟨x, by rw [List.getElem?_set_ne hj]; exact e1, r1⟩
theorem EnR.none {σu : En} {σ : St} (h : EnR K sc ρ H σu σ) (i : Nat) : EnR K sc ρ H (σu.set i Option.none) (σ.set i Option.none) := by
  refine ⟨by rw [List.length_set, List.length_set]; exact h.len, fun j w e => ?_⟩
  by_cases hj : i = j
  · subst hj
    by_cases hl : i < σu.length
    · rw [List.getElem?_set_self hl] at e
      cases e
    · rw [List.getElem?_eq_none (by rw [List.length_set]; omega)] at e
      cases e
  · rw [List.getElem?_set_ne hj] at e
    obtain ⟨x, e1, r1⟩ := h.vs j w e
    exact ⟨x, by rw [List.getElem?_set_ne hj]; exact e1, r1⟩
theorem EnR.wipe {σu : En} {σ : St} (h : EnR K sc ρ H σu σ) : ∀ vs : List Nat, EnR K sc ρ H (wipeU σu vs) (L2.wipe σ vs)
  | [] => h
  | v :: vs => EnR.none (EnR.wipe h vs) v

/-- a value that is read: a list at its top may be a cell's -/
inductive Tp (K : PySem.W.Frag) (ρ : Ad) (H : Hp) : V → PyData → Prop
  | non : Tp K ρ H .non .none
  | bl (b : Bool) : Tp K ρ H (.bl b) (.bool b)
  | int (i : Int) : Tp K ρ H (.int i) (.int i)
  | str (x : Str) : Tp K ρ H (.str x) (.str x)
  | lst {a : Addr} {xs : List V} {ds : List PyData} : SqL K H a xs → DRs K ρ H xs ds → Tp K ρ H (.ref a) (.list ds)
  | tup {a : Addr} {xs : List V} {ds : List PyData} : SqT K H a xs → DR K ρ H (.ref a) (.tuple ds) → DRs K ρ H xs ds → Tp K ρ H (.ref a) (.tuple ds)
theorem DR.tp {v : V} {d : PyData} (h : DR K ρ H v d) : Tp K ρ H v d := by
  cases h with
  | non => exact .non
  | bl b => exact .bl b
  | int i => exact .int i
  | str x => exact .str x
  | lst r n q => exact .lst (.inl r) q
  | tup r n q => exact .tup (.inl r) (.tup r n q) q
  | ktup r q => exact .tup (.inr r) (.ktup r q) q
mutual
theorem DR.dp : ∀ (d : PyData) (v : V), DR K ρ H v d → Dp K H v d
  | .none, _, h => by cases h; exact .non
  | .bool b, _, h => by cases h; exact .bl b
  | .int i, _, h => by cases h; exact .int i
  | .str x, _, h => by cases h; exact .str x
  | .list ds, _, h => by
    cases h with
    | lst r n q => exact .lst (.inl r) (DRs.dp ds _ q)
  | .tuple ds, _, h => by
    cases h with
    | tup r n q => exact .tup (.inl r) (DRs.dp ds _ q)
    | ktup r q => exact .tup (.inr r) (DRs.dp ds _ q)
  | .dict _, _, h => by cases h
theorem DRs.dp : ∀ (ds : List PyData) (vs : List V), DRs K ρ H vs ds → DpAll K H vs ds
  | [], _, h => by cases h; exact .nil
  | d :: ds, _, h => by
    cases h with
    | cons a b => exact .cons (DR.dp d _ a) (DRs.dp ds _ b)
end
theorem Tp.dp {v : V} {d : PyData} (h : Tp K ρ H v d) : Dp K H v d := by
  cases h with
  | non => exact .non
  | bl b => exact .bl b
  | int i => exact .int i
  | str x => exact .str x
  | lst r q => exact .lst r (DRs.dp _ _ q)
  | tup r _ q => exact .tup r (DRs.dp _ _ q)
theorem DRs.ints : ∀ (ns : List Int), DRs K ρ H (ns.map V.int) (ns.map PyData.int)
  | [] => .nil
  | n :: ns => .cons (.int n) (DRs.ints ns)
theorem tp_of {S : Sto} {u : U} {v : V} {d : PyData} (hS : StR K ρ H S) (r : RU K sc ρ H u v) (e : rd sc S u = some d) : Tp K ρ H v d := by
  cases u with
  | d x => cases e; exact DR.tp r
  | c n =>
    obtain ⟨a, ea, rfl⟩ := r
    have e : (S[n]?).map PyData.list = some d := e
    cases q : S[n]? with
    | none => rw [q] at e; cases e
    | some xs =>
      rw [q] at e
      cases e
      obtain ⟨b, vs, eb, hb, qb⟩ := hS.cs n xs q
      rw [ea] at eb
      cases eb
      exact .lst (.inl (.inl hb)) qb
  | s =>
    cases e
    obtain ⟨a, rfl, ⟨n, q⟩ | q⟩ := r
    · exact .lst (.inl q) (DRs.ints _)
    · exact .lst (q H) (DRs.ints _)
theorem rdN_rd {S : Sto} {u : U} {d : PyData} (e : rdN S u = some d) : rd sc S u = some d := by
  cases u with
  | d x => exact e
  | c n => exact e
  | s => cases e
/-- .. its list stands in the heap itself -/
theorem rdN_lst {S : Sto} {u : U} {v : V} {ds : List PyData} (hS : StR K ρ H S) (r : RU K sc ρ H u v) (e : rdN S u = some (.list ds)) : ∃ a xs, v = .ref a ∧ Rd H a (.lst xs) ∧ DRs K ρ H xs ds := by
  cases u with
  | d x =>
    cases e
    have r : DR K ρ H v (.list ds) := r
    cases r with
    | lst r1 n1 q1 => exact ⟨_, _, rfl, r1, q1⟩
  | c n =>
    obtain ⟨a, ea, rfl⟩ := r
    have e : (S[n]?).map PyData.list = some (.list ds) := e
    cases q : S[n]? with
    | none => rw [q] at e; cases e
    | some xs =>
      rw [q] at e
      cases e
      obtain ⟨b, vs, eb, hb, qb⟩ := hS.cs n ds q
      rw [ea] at eb
      cases eb
      exact ⟨a, vs, rfl, .inl hb, qb⟩
  | s => cases e
theorem StR.kp {S : Sto} (k : Kp ρ H H') (hc : ∀ a ∈ ρ.c, H' a = H a) (hS : StR K ρ H S) : StR K ρ H' S := by
  refine ⟨hS.len, hS.nd, fun n xs e => ?_, fun a ha => ?_⟩
  · obtain ⟨a, vs, ea, ha, q⟩ := hS.cs n xs e
    exact ⟨a, vs, ea, by rw [hc a (List.mem_of_getElem? ea)]; exact ha, DRs.kp k _ _ q⟩
  · obtain ⟨h1, o, h2⟩ := hS.hid a ha
    exact ⟨h1, o, k a o h1 h2⟩
/-- every cell is tracked -/
theorem StR.trk {S : Sto} (hS : StR K ρ H S) {a : Addr} (h : a ∈ ρ.c) : ∃ vs, H a = some (.lst vs) := by
  obtain ⟨n, hn⟩ := List.getElem?_of_mem h
  have hl : n < S.length := by
    rw [← hS.len]
    exact (List.getElem?_eq_some_iff.mp hn).1
  obtain ⟨b, vs, eb, hb, _⟩ := hS.cs n S[n] (List.getElem?_eq_getElem hl)
  rw [hn] at eb
  cases eb
  exact ⟨vs, hb⟩
theorem StR.notin {S : Sto} (hS : StR K ρ H S) {p : Addr} (h : H p = none) : ¬ p ∈ ρ.ex := fun z => by
  rcases Ad.mem.mp z with z | z
  · obtain ⟨vs, e⟩ := hS.trk z
    rw [h] at e
    cases e
  · obtain ⟨_, o, e⟩ := hS.hid p z
    rw [h] at e
    cases e
theorem StR.notinc {S : Sto} (hS : StR K ρ H S) {p : Addr} (h : H p = none) : ¬ p ∈ ρ.c := fun z => hS.notin h (Ad.mem.mpr (.inl z))
/-- a new object -/
theorem StR.new {S : Sto} (hS : StR K ρ H S) {p : Addr} {o : HO} (h : H p = none) : StR K ρ (upd H p o) S :=
  hS.kp (Kp.new h) fun a ha => upd_ne fun z => hS.notinc h (z ▸ ha)

/-! ### more cells -/
structure Ex (ρ : Ad) (H : Hp) (ρ' : Ad) (H' : Hp) : Prop where
  c : ∃ more, ρ'.c = ρ.c ++ more ∧ ∀ p ∈ more, H p = Option.none
  x : ∃ more, ρ'.x = ρ.x ++ more ∧ ∀ p ∈ more, H p = Option.none
  kp : Kp ρ H H'
theorem Ex.of (k : Kp ρ H H') : Ex ρ H ρ H' := ⟨⟨[], by simp, fun p hp => by cases hp⟩, ⟨[], by simp, fun p hp => by cases hp⟩, k⟩
theorem Ex.refl : Ex ρ H ρ H := Ex.of Kp.refl
theorem Ex.trans {ρ1 ρ2 : Ad} {H1 H2 : Hp} {S1 : Sto} (a : Ex ρ H ρ1 H1) (hS : StR K ρ1 H1 S1) (b : Ex ρ1 H1 ρ2 H2) : Ex ρ H ρ2 H2 := by
  obtain ⟨m1, e1, f1⟩ := a.c
  obtain ⟨m2, e2, f2⟩ := b.c
  obtain ⟨n1, d1, g1⟩ := a.x
  obtain ⟨n2, d2, g2⟩ := b.x
  have nw : ∀ p, H1 p = Option.none → H p = Option.none := fun p hp => by
    cases q : H p with
    | none => rfl
    | some o =>
      by_cases hc : p ∈ ρ.c
      · obtain ⟨vs, e⟩ := hS.trk (a := p) (by rw [e1]; exact List.mem_append_left _ hc)
        rw [hp] at e; cases e
      · have e := a.kp p o hc q
        rw [hp] at e; cases e
  refine ⟨⟨m1 ++ m2, by rw [e2, e1, List.append_assoc], fun p hp => ?_⟩, ⟨n1 ++ n2, by rw [d2, d1, List.append_assoc], fun p hp => ?_⟩, fun c o hc e => ?_⟩
  · rcases List.mem_append.mp hp with z | z
    · exact f1 p z
    · exact nw p (f2 p z)
  · rcases List.mem_append.mp hp with z | z
    · exact g1 p z
    · exact nw p (g2 p z)
  · have e3 := a.kp c o hc e
    refine b.kp c o (fun z => ?_) e3
    rw [e1] at z
    rcases List.mem_append.mp z with z | z
    · exact hc z
    · rw [f1 c z] at e; cases e
theorem Ex.mem (a : Ex ρ H ρ' H') {b : Addr} (h : b ∈ ρ'.ex) : b ∈ ρ.ex ∨ H b = Option.none := by
  obtain ⟨m1, e1, f1⟩ := a.c
  obtain ⟨n1, d1, g1⟩ := a.x
  rcases Ad.mem.mp h with z | z
  · rw [e1] at z
    rcases List.mem_append.mp z with z | z
    · exact .inl (Ad.mem.mpr (.inl z))
    · exact .inr (f1 b z)
  · rw [d1] at z
    rcases List.mem_append.mp z with z | z
    · exact .inl (Ad.mem.mpr (.inr z))
    · exact .inr (g1 b z)
theorem Ex.kp' (a : Ex ρ H ρ' H') : Kp ρ' H H' := fun c o hc e => by
  obtain ⟨m1, e1, f1⟩ := a.c
  exact a.kp c o (fun z => hc (by rw [e1]; exact List.mem_append_left _ z)) e
theorem DR.ext (a : Ex ρ H ρ' H') {d : PyData} {v : V} (h : DR K ρ H v d) : DR K ρ' H' v d := DR.kp a.kp' d v (DR.grow (fun _ z => a.mem z) d v h)
theorem DRs.ext (a : Ex ρ H ρ' H') {d : List PyData} {v : List V} (h : DRs K ρ H v d) : DRs K ρ' H' v d := DRs.kp a.kp' d v (DRs.grow (fun _ z => a.mem z) d v h)
theorem RU.ext (a : Ex ρ H ρ' H') {u : U} {v : V} (h : RU K sc ρ H u v) : RU K sc ρ' H' u v := by
  cases u with
  | d x => exact DR.ext (K := K) a h
  | c n =>
    obtain ⟨b, e, ev⟩ := h
    obtain ⟨m1, e1, f1⟩ := a.c
    exact ⟨b, by rw [e1, List.getElem?_append_left (List.getElem?_eq_some_iff.mp e).1]; exact e, ev⟩
  | s =>
    obtain ⟨b, e, ⟨n, q⟩ | q⟩ := h
    · refine ⟨b, e, .inl ⟨fun z => ?_, ?_⟩⟩
      · rcases a.mem z with z | z
        · exact n z
        · rcases q with q | ⟨o, q⟩ <;> (rw [z] at q; cases q)
      · exact Rd.kp a.kp n q
    · exact ⟨b, e, .inr q⟩
theorem EnR.ext (a : Ex ρ H ρ' H') {σu : En} {σ : St} (h : EnR K sc ρ H σu σ) : EnR K sc ρ' H' σu σ :=
  ⟨h.len, fun i u e => by
    obtain ⟨v, e1, r⟩ := h.vs i u e
    exact ⟨v, e1, r.ext a⟩⟩
end

/-! ### readings by pure functions -/
/-- what is wanted of an exception: its class, the frame, the heap -/
abbrev XW := Str → St → Hp → Prop
def noX : XW := fun _ _ _ => False
section
variable (K : PySem.W.Frag) (sc : List Int) (E : XW)
def PxH (ρ : Ad) (H : Hp) (σ : St) (c : Str) (S' : Sto) : Prop := ∀ H', Kp ρ H H' → StR K ρ H' S' → E c σ H'
/-- what a pure function tells, as a wish -/
def W {α β : Type} (Rel : Ad → Hp → α → β → Prop) (g : En → Sto → R α) : St → Hp → (β → Hp → Prop) → Prop := fun σ H Q =>
  ∃ ρ σu S, StR K ρ H S ∧ EnR K sc ρ H σu σ ∧ (g σu S).wp (fun a S' => ∀ b H', Kp ρ H H' → StR K ρ H' S' → Rel ρ H' a b → Q b H') (PxH K E ρ H σ)
def RUs (ρ : Ad) (H : Hp) (us : List U) (vs : List V) : Prop := Paired (RU K sc ρ H) us vs
def RB (_ : Ad) (_ : Hp) (a b : Bool) : Prop := a = b
abbrev tE (g : En → Sto → R U) : TE := W K sc E (RU K sc) g
abbrev tT (g : En → Sto → R Bool) : TT := W K sc E RB g
abbrev tA (g : En → Sto → R (List U)) : TA := W K sc E (RUs K sc) g
end
section
variable {K : PySem.W.Frag} {sc : List Int} {E : XW} {α β γ : Type} {Rel : Ad → Hp → α → β → Prop}
theorem PxH.on {ρ : Ad} {H H1 : Hp} {σ : St} {c : Str} {S' : Sto} (k : Kp ρ H H1) (h : PxH K E ρ H σ c S') : PxH K E ρ H1 σ c S' := fun H' k' => h H' (k.trans k')
/-- one step -/
theorem W.go {g : En → Sto → R α} {ρ : Ad} {σu : En} {S : Sto} {σ : St} {H : Hp} {P : α → Sto → Prop} {Q : β → Hp → Prop} (hS : StR K ρ H S) (hE : EnR K sc ρ H σu σ) (w : (g σu S).wp P (PxH K E ρ H σ))
    (k : ∀ a S1 b H1, P a S1 → Kp ρ H H1 → StR K ρ H1 S1 → EnR K sc ρ H1 σu σ → Rel ρ H1 a b → Q b H1) : W K sc E Rel g σ H Q :=
  ⟨ρ, σu, S, hS, hE, w.mono (fun a S1 p b H1 k1 s1 r => k a S1 b H1 p k1 s1 (hE.kp k1) r) fun _ _ x => x⟩
/-- .. and what comes behind it -/
theorem W.bd {g : En → Sto → R α} {f : α → Sto → R γ} {ρ : Ad} {σu : En} {S : Sto} {σ : St} {H : Hp} {P : γ → Sto → Prop} {Q : β → Hp → Prop} (hS : StR K ρ H S) (hE : EnR K sc ρ H σu σ) (w : ((g σu S).bd f).wp P (PxH K E ρ H σ))
    (k : ∀ a S1 b H1, Kp ρ H H1 → StR K ρ H1 S1 → EnR K sc ρ H1 σu σ → Rel ρ H1 a b → (f a S1).wp P (PxH K E ρ H1 σ) → Q b H1) : W K sc E Rel g σ H Q :=
  W.go hS hE (wp_bd w) fun a S1 b H1 p k1 s1 n1 r1 => k a S1 b H1 k1 s1 n1 r1 (p.mono (fun _ _ x => x) fun _ _ x => x.on k1)
theorem W.on {g : En → Sto → R α} {ρ : Ad} {σu : En} {S : Sto} {σ : St} {H0 H : Hp} {Q : β → Hp → Prop} (hS : StR K ρ H S) (hE : EnR K sc ρ H σu σ) (k0 : Kp ρ H0 H) (w : (g σu S).wp (fun a S' => ∀ b H', Kp ρ H0 H' → StR K ρ H' S' → Rel ρ H' a b → Q b H') (PxH K E ρ H σ)) : W K sc E Rel g σ H Q :=
  ⟨ρ, σu, S, hS, hE, w.mono (fun _ _ p b H' k => p b H' (k0.trans k)) fun _ _ x => x⟩
theorem W.at {g : En → Sto → R α} {ρ : Ad} {σu : En} {S : Sto} {σ : St} {H0 H : Hp} {Q : β → Hp → Prop} (hS : StR K ρ H S) (hE : EnR K sc ρ H σu σ) (k0 : Kp ρ H0 H) (w : (g σu S).wp (fun a S' => ∀ b H', Kp ρ H0 H' → StR K ρ H' S' → Rel ρ H' a b → Q b H') (PxH K E ρ H0 σ)) : W K sc E Rel g σ H Q :=
  W.on hS hE k0 (w.mono (fun _ _ x => x) fun _ _ x => x.on k0)
theorem W.get {g : En → Sto → R α} {ρ : Ad} {σu : En} {S : Sto} {σ : St} {H : Hp} {P : α → Sto → Prop} (hS : StR K ρ H S) (hE : EnR K sc ρ H σu σ) (w : (g σu S).wp P (PxH K E ρ H σ)) :
    W K sc E Rel g σ H (fun b H1 => ∃ a S1, Kp ρ H H1 ∧ StR K ρ H1 S1 ∧ EnR K sc ρ H1 σu σ ∧ Rel ρ H1 a b ∧ P a S1) :=
  W.go hS hE w fun a S1 b H1 p k1 s1 n1 r1 => ⟨a, S1, k1, s1, n1, r1, p⟩
theorem W.ok {g : En → Sto → R α} {ρ : Ad} {σu : En} {S S1 : Sto} {σ : St} {H : Hp} {a : α} {Q : β → Hp → Prop} (hS : StR K ρ H S) (hE : EnR K sc ρ H σu σ) (e : g σu S = .ok a S1)
    (k : ∀ b H1, Kp ρ H H1 → StR K ρ H1 S1 → EnR K sc ρ H1 σu σ → Rel ρ H1 a b → Q b H1) : W K sc E Rel g σ H Q :=
  ⟨ρ, σu, S, hS, hE, by rw [e]; exact fun b H1 k1 s1 r => k b H1 k1 s1 (hE.kp k1) r⟩
theorem PE.imp {X : Cx} {e : Expr} {t t' : TE} (h : PE X e t) (k : ∀ σ H Q, t' σ H Q → t σ H Q) : PE X e t' := fun pins s σ H Q I w => h pins s σ H Q I (k _ _ _ w)
theorem PT.imp {X : Cx} {e : Expr} {t t' : TT} (h : PT X e t) (k : ∀ σ H Q, t' σ H Q → t σ H Q) : PT X e t' := fun pins s σ H Q I w => h pins s σ H Q I (k _ _ _ w)
theorem PA.imp {X : Cx} {e : List Expr} {t t' : TA} (h : PA X e t) (k : ∀ σ H Q, t' σ H Q → t σ H Q) : PA X e t' := fun pos pins s σ H Q I w => h pos pins s σ H Q I (k _ _ _ w)
theorem PS.imp {X : Cx} {e : Stmt} {t t' : TS} (h : PS X e t) (k : ∀ D σ H, t' D σ H → t D σ H) : PS X e t' := fun pins s σ H D I w => h pins s σ H D I (k _ _ _ w)
theorem PSs.imp {X : Cx} {e : List Stmt} {t t' : TS} (h : PSs X e t) (k : ∀ D σ H, t' D σ H → t D σ H) : PSs X e t' := fun pins s σ H D I w => h pins s σ H D I (k _ _ _ w)
theorem PI.imp {X : Cx} {tg e : Expr} {t t' : TI} (h : PI X tg e t) (k : ∀ σ H R, t' σ H R → t σ H R) : PI X tg e t' := fun pins s σ H R I w => h pins s σ H R I (k _ _ _ w)
theorem PG.imp {X : Cx} {tg : Expr} {t t' : TG} (h : PG X tg t) (k : ∀ v σ H R, t' v σ H R → t v σ H R) : PG X tg t' := fun pins s σ H v u Q I r w => h pins s σ H v u Q I r (k _ _ _ _ w)
end
end Ev

set_option Elab.async false
set_option linter.all false
set_option maxRecDepth 100000
set_option maxHeartbeats 1000000
namespace Ev
open PySem L2
open PyProof.Rows hiding St
section
variable {X : Cx} {sc : List Int} {E : XW} {a b c : Expr} {ga gb gc : En → Sto → R U} {pos : Pos}
/-- a constant value -/
theorem s_con {e : Expr} {v : V} {d : PyData} (h : PE X e (tC v)) (k : ∀ ρ H, DR X.K ρ H v d) : PE X e (tE X.K sc E fun _ S => .ok (.d d) S) :=
  PE.imp h fun σ H Q ⟨ρ, σu, S, hS, hE, w⟩ => w v H Kp.refl hS (k ρ H)
theorem s_bad {e : Expr} : PE X e (tE X.K sc E fun _ _ => .bad) := fun _ _ _ _ _ _ ⟨_, _, _, _, _, w⟩ => w.elim
theorem s_var {i : Nat} {x : Str} (hN : X.N[i]? = some x) (hv : Vis X.env.scope x) (hd : (x == ("__debug__" : Str)) = false) (hcd : (x == ("__classdict__" : Str)) = false) :
    PE X (.Name x pos) (tE X.K sc E fun σ S => match σ[i]? with | some (some u) => .ok u S | _ => .bad) :=
  PE.imp (pe_var hN hv hd hcd) fun σ H Q ⟨ρ, σu, S, hS, hE, w⟩ => by
    dsimp only at w
    split at w
    · rename_i u hw
      obtain ⟨v, e1, r⟩ := hE.vs i _ hw
      exact ⟨v, e1, w v H Kp.refl hS r⟩
    · exact w.elim
/-- two operands, then an operation on data -/
theorem s_two {R2' : R2} {f : U → U → Sto → R U} {e : Expr} (h : PE X e (tOp R2' (tE X.K sc E ga) (tE X.K sc E gb)))
    (k : ∀ x y S2 (P : U → Sto → Prop) (Px : Str → Sto → Prop), (f x y S2).wp P Px → ∀ ρ H vx vy Q, StR X.K ρ H S2 → RU X.K sc ρ H x vx → RU X.K sc ρ H y vy → (∀ u S', P u S' → ∀ v H', Kp ρ H H' → StR X.K ρ H' S' → RU X.K sc ρ H' u v → Q v H') → R2' vx vy H Q) :
    PE X e (tE X.K sc E fun σ S => (ga σ S).bd fun x S1 => (gb σ S1).bd fun y S2 => f x y S2) :=
  PE.imp h fun σ H Q ⟨ρ, σu, S, hS, hE, w⟩ => by
    refine W.bd hS hE w fun x S1 vx H1 k1 s1 n1 r1 w => ?_
    refine W.bd s1 n1 w fun y S2 vy H2 k2 s2 n2 r2 w => ?_
    exact k x y S2 _ _ w ρ H2 vx vy Q s2 (r1.kp k2) r2 fun u S' p v H' k3 s3 r3 => p v H' ((k1.trans k2).trans k3) s3 r3
/-- plain results: no change of the store -/
theorem fin_d {ρ : Ad} {H : Hp} {S : Sto} {u : U} {d : PyData} {v : V} {Q : V → Hp → Prop} (hS : StR X.K ρ H S) (r : DR X.K ρ H v d)
    (q : ∀ v H', Kp ρ H H' → StR X.K ρ H' S → RU X.K sc ρ H' (.d d) v → Q v H') : Q v H := q v H Kp.refl hS r
/-- a new list, a new tuple -/
theorem fin_lst {ρ : Ad} {H : Hp} {S : Sto} {xs : List V} {ds : List PyData} {p : Addr} {Q : V → Hp → Prop} (hS : StR X.K ρ H S) (r : DRs X.K ρ H xs ds) (hp : H p = none)
    (q : ∀ v H', Kp ρ H H' → StR X.K ρ H' S → RU X.K sc ρ H' (.d (.list ds)) v → Q v H') : Q (.ref p) (upd H p (.lst xs)) :=
  q _ _ (Kp.new hp) (hS.new hp) (.lst (.inl upd_same) (hS.notin hp) (DRs.kp (Kp.new hp) _ _ r))
theorem fin_tup {ρ : Ad} {H : Hp} {S : Sto} {xs : List V} {ds : List PyData} {p : Addr} {Q : V → Hp → Prop} (hS : StR X.K ρ H S) (r : DRs X.K ρ H xs ds) (hp : H p = none)
    (q : ∀ v H', Kp ρ H H' → StR X.K ρ H' S → RU X.K sc ρ H' (.d (.tuple ds)) v → Q v H') : Q (.ref p) (upd H p (.tup xs)) :=
  q _ _ (Kp.new hp) (hS.new hp) (.tup (.inl upd_same) (hS.notin hp) (DRs.kp (Kp.new hp) _ _ r))

/-! ### operators -/
/-- list + list, both in the heap or known -/
def rCat' : R2 := fun x y H Q => ∃ l b xs zs, x = .ref l ∧ y = .ref b ∧ Rd H l (.lst xs) ∧ Rd H b (.lst zs) ∧ xs.length + zs.length ≤ sizeLine ∧ ∀ p, H p = none → Q (.ref p) (upd H p (.lst (xs ++ zs)))
theorem lstR {pins : List (Addr × Obj)} {σ : L2.St} {H : Hp} {s : Shared} {l : Addr} {xs : List V} (I : Inv X pins σ H s) (hH : Rd H l (.lst xs)) : xs.length ≤ sizeLine ∧ ∃ (its : List Value) (n : Nat), Vals xs its ∧ xs.length = its.length ∧ s.heap.get? l = some { cls := .type "list", data := .seq its.toArray n } := by
  obtain ⟨z, its, n, r, e⟩ := hH.ok I.hok
  exact ⟨z, its, n, r, r.length, e⟩
theorem op_cat' : OpR X (binaryOp .Add) rCat' := by
  intro pins s σ H x y v u Q I rx ry h
  obtain ⟨l, b, xs, zs, rfl, rfl, hH, hB, hz, q⟩ := h
  cases rx
  cases ry
  obtain ⟨z, its, n, r, hl, e⟩ := lstR I hH
  obtain ⟨z2, its2, n2, r2, hl2, e2⟩ := lstR I hB
  refine PySem.P.add_list e e2 ?_ (by rw [List.size_toArray, List.size_toArray]; omega)
  have ea : its.toArray ++ its2.toArray = (its ++ its2).toArray := by simp
  rw [ea]
  exact ⟨.ref _, _, I.lnew (t' := s.toks) (r.append r2) (by rw [List.length_append]; omega), rfl, q _ I.fresh⟩
theorem OpR.or {f : Value → Value → Sem Value} {r r' : R2} (h : OpR X f r) (h' : OpR X f r') : OpR X f (fun x y H Q => r x y H Q ∨ r' x y H Q) := by
  intro pins s σ H x y v u Q I rx ry q
  rcases q with q | q
  · exact h pins s σ H x y v u Q I rx ry q
  · exact h' pins s σ H x y v u Q I rx ry q
/-- an operator on data -/
def rBop (o : Bop) : R2 := match o with
  | .add => fun x y H Q => (rI0 fun i j => .int (i + j)) x y H Q ∨ (∃ i j, x = .str i ∧ y = .str j ∧ i.length + j.length ≤ sizeLine ∧ Q (.str (i ++ j)) H) ∨ rCat' x y H Q
  | .sub => rI0 fun i j => .int (i - j)
  | .mul => rI CMul fun i j => .int (i * j)
  | .fdiv => rI CDiv fun i j => .int (i / j)
  | .mod => rI (fun _ j => 0 < j) fun i j => .int (i % j)
theorem op_bop (o : Bop) : OpR X (binaryOp o.op) (rBop o) := by
  cases o with
  | add => exact op_add.or (op_add_str.or op_cat')
  | sub => exact op_sub
  | mul => exact op_mul
  | fdiv => exact op_fdiv
  | mod => exact op_mod
theorem bop_ok {o : Bop} {p q r : PyData} (e : bop o p q = some r) {ρ : Ad} {H : Hp} {S : Sto} {x y : U} {vx vy : V} {Q : V → Hp → Prop} (hS : StR X.K ρ H S) (rx : RU X.K sc ρ H x vx) (ry : RU X.K sc ρ H y vy)
    (ex : rdN S x = some p) (ey : rdN S y = some q) (k : ∀ v H', Kp ρ H H' → StR X.K ρ H' S → RU X.K sc ρ H' (.d r) v → Q v H') : rBop o vx vy H Q := by
  have tx := tp_of hS rx (rdN_rd ex)
  have ty := tp_of hS ry (rdN_rd ey)
  unfold bop at e
  split at e
  · cases e; cases tx; cases ty
    exact .inl ⟨_, _, rfl, rfl, k _ _ Kp.refl hS (DR.int _)⟩
  · split at e
    · rename_i hl
      cases e; cases tx; cases ty
      exact .inr (.inl ⟨_, _, rfl, rfl, hl, k _ _ Kp.refl hS (DR.str _)⟩)
    · cases e
  · split at e
    · rename_i hl
      cases e
      obtain ⟨a1, xs1, rfl, h1, q1⟩ := rdN_lst hS rx ex
      obtain ⟨a2, xs2, rfl, h2, q2⟩ := rdN_lst hS ry ey
      exact .inr (.inr ⟨_, _, _, _, rfl, rfl, h1, h2, by rw [q1.length, q2.length]; exact hl, fun pp hp => fin_lst hS (q1.app q2) hp k⟩)
    · cases e
  · cases e; cases tx; cases ty
    exact ⟨_, _, rfl, rfl, k _ _ Kp.refl hS (DR.int _)⟩
  · split at e
    · rename_i hl
      unfold mulOk at hl
      simp only [Bool.or_eq_true, Bool.and_eq_true, decide_eq_true_eq] at hl
      cases e; cases tx; cases ty
      exact ⟨_, _, rfl, rfl, hl, k _ _ Kp.refl hS (DR.int _)⟩
    · cases e
  · split at e
    · rename_i hl
      unfold divOk at hl
      simp only [Bool.and_eq_true, decide_eq_true_eq] at hl
      cases e; cases tx; cases ty
      exact ⟨_, _, rfl, rfl, hl, k _ _ Kp.refl hS (DR.int _)⟩
    · cases e
  · split at e
    · rename_i hl
      cases e; cases tx; cases ty
      exact ⟨_, _, rfl, rfl, hl, k _ _ Kp.refl hS (DR.int _)⟩
    · cases e
  · cases e
def gBin (o : Bop) (ga gb : En → Sto → R U) : En → Sto → R U := fun σ S => (ga σ S).bd fun x S1 => (gb σ S1).bd fun y S2 =>
      match rdN S2 x, rdN S2 y with
      | some p, some q => (R.of S2 (bop o p q)).bd fun r S3 => .ok (.d r) S3
      | _, _ => .bad
theorem s_bin {o : Bop} (ha : PE X a (tE X.K sc E ga)) (hb : PE X b (tE X.K sc E gb)) : PE X (.BinOp a o.op b pos) (tE X.K sc E (gBin o ga gb)) := by
  refine s_two (pe_op (op_bop o) ha hb) fun x y S2 P Px w ρ H vx vy Q hS rx ry k => ?_
  split at w
  · rename_i p q hp hq
    obtain ⟨r, e4, w⟩ := of_bd w
    exact bop_ok e4 hS rx ry hp hq (k _ _ w)
  · exact w.elim
/-! ### comparisons -/
def rCop (K : PySem.W.Frag) (o : Cop) : R2 := match o with
  | .eq => rEqD K
  | .ne => rNeD K
  | .lt => rI0 fun i j => .bl (decide (i < j))
  | .le => rI0 fun i j => .bl (decide (i ≤ j))
  | .gt => rI0 fun i j => .bl (decide (j < i))
  | .ge => rI0 fun i j => .bl (decide (j ≤ i))
  | .inn => fun x y H Q => rIn K false x y H Q ∨ ∃ i j, x = .str i ∧ y = .str j ∧ Q (.bl (!(Builtin.Str.occurrences j i 0 j.length 1).isEmpty)) H
  | .nin => fun x y H Q => rIn K true x y H Q ∨ ∃ i j, x = .str i ∧ y = .str j ∧ Q (.bl (!(!(Builtin.Str.occurrences j i 0 j.length 1).isEmpty))) H
theorem op_cop (hu : X.A.units + 64 < cLine) (o : Cop) : OpR X (compareOp o.op) (rCop X.K o) := by
  cases o with
  | eq => exact op_eqD hu
  | ne => exact op_neD hu
  | lt => exact op_lt
  | le => exact op_le
  | gt => exact op_gt
  | ge => exact op_ge
  | inn => exact op_in_seq.or op_in_str
  | nin => exact op_notIn_seq.or op_notin_str
theorem flat_of {ρ : Ad} {H : Hp} {v : V} {d : PyData} (t : Tp X.K ρ H v d) (f : flatP d = true) : flatV v = true := by
  cases t <;> first | rfl | cases f
theorem flats_of {ρ : Ad} {H : Hp} : ∀ {ds : List PyData} {vs : List V}, DRs X.K ρ H vs ds → ds.all flatP = true → vs.all flatV = true
  | [], _, h, _ => by cases h; rfl
  | d :: ds, _, h, f => by
    cases h with
    | cons a b =>
      rw [List.all_cons, Bool.and_eq_true] at f ⊢
      exact ⟨flat_of a.tp f.1, flats_of b f.2⟩
theorem eqf_of {ρ : Ad} {H : Hp} {v w : V} {d e : PyData} (t : Tp X.K ρ H v d) (t' : Tp X.K ρ H w e) (f : flatP d = true) (f' : flatP e = true) : eqV v w = eqf d e := by
  cases t <;> cases t' <;> first | rfl | cases f | cases f'
theorem anyf_of {ρ : Ad} {H : Hp} {w : V} {e : PyData} (t' : Tp X.K ρ H w e) (f' : flatP e = true) : ∀ {ds : List PyData} {vs : List V}, DRs X.K ρ H vs ds → ds.all flatP = true → inV w vs = ds.any fun y => eqf y e
  | [], _, h, _ => by cases h; rfl
  | d :: ds, _, h, f => by
    cases h with
    | @cons v vs _ _ a b =>
      rw [List.all_cons, Bool.and_eq_true] at f
      have ih := anyf_of t' f' b f.2
      unfold inV at ih ⊢
      rw [List.any_cons, List.any_cons, ih, eqf_of a.tp t' f.1 f']
theorem cop_ok {o : Cop} {p q : PyData} {r : Bool} (e : cop o p q = some r) {ρ : Ad} {H : Hp} {vx vy : V} {Q : V → Hp → Prop} (tx : Tp X.K ρ H vx p) (ty : Tp X.K ρ H vy q) (k : Q (.bl r) H) : rCop X.K o vx vy H Q := by
  have inn : ∀ {r : Bool} (neg : Bool), inP p q = some r → Q (.bl (if neg then !r else r)) H → (rIn X.K neg vx vy H Q ∨ ∃ i j, vx = .str i ∧ vy = .str j ∧ Q (.bl (if neg then !(!(Builtin.Str.occurrences j i 0 j.length 1).isEmpty) else !(Builtin.Str.occurrences j i 0 j.length 1).isEmpty)) H) := fun {r} neg e k => by
    unfold inP at e
    split at e
    · split at e
      · rename_i hf
        rw [Bool.and_eq_true] at hf
        cases e
        cases ty with
        | lst hs hd => exact .inl ⟨_, _, rfl, .inl hs, flat_of tx hf.1, flats_of hd hf.2, by rw [anyf_of tx hf.1 hd hf.2]; exact k⟩
      · cases e
    · split at e
      · rename_i hf
        rw [Bool.and_eq_true] at hf
        cases e
        cases ty with
        | tup hs _ hd => exact .inl ⟨_, _, rfl, .inr hs, flat_of tx hf.1, flats_of hd hf.2, by rw [anyf_of tx hf.1 hd hf.2]; exact k⟩
      · cases e
    · split at e
      · cases e
        cases tx; cases ty
        exact .inr ⟨_, _, rfl, rfl, k⟩
      · cases e
    · cases e
  unfold cop at e
  split at e
  · split at e
    · rename_i hf
      rw [Bool.and_eq_true] at hf
      cases e
      exact ⟨p, q, tx.dp, ty.dp, hf.1, hf.2, k⟩
    · cases e
  · split at e
    · rename_i hf
      rw [Bool.and_eq_true] at hf
      cases e
      exact ⟨p, q, tx.dp, ty.dp, hf.1, hf.2, k⟩
    · cases e
  · cases e; cases tx; cases ty; exact ⟨_, _, rfl, rfl, k⟩
  · cases e; cases tx; cases ty; exact ⟨_, _, rfl, rfl, k⟩
  · cases e; cases tx; cases ty; exact ⟨_, _, rfl, rfl, k⟩
  · cases e; cases tx; cases ty; exact ⟨_, _, rfl, rfl, k⟩
  · exact inn false e k
  · cases h : inP p q with
    | none => rw [h] at e; cases e
    | some t =>
      rw [h] at e
      cases e
      exact inn true h k
  · cases e
def gCmp (sc : List Int) (o : Cop) (ga gb : En → Sto → R U) : En → Sto → R U := fun σ S => (ga σ S).bd fun x S1 => (gb σ S1).bd fun y S2 =>
      match rd sc S2 x, rd sc S2 y with
      | some p, some q => (R.of S2 (cop o p q)).bd fun r S3 => .ok (.d (.bool r)) S3
      | _, _ => .bad
theorem gCmp_bool {o : Cop} {σu : En} {S S' : Sto} {u : U} (e : gCmp sc o ga gb σu S = .ok u S') : ∃ b, u = .d (.bool b) := by
  obtain ⟨x, S1, e1, e⟩ := bd_inv e
  obtain ⟨y, S2, e2, e⟩ := bd_inv e
  split at e
  · obtain ⟨r, S3, e3, e⟩ := bd_inv e
    cases e
    exact ⟨r, rfl⟩
  · cases e
theorem cmp_fin {o : Cop} {x y : U} {S2 : Sto} {P : U → Sto → Prop} {Px : Str → Sto → Prop} (w : R.wp (match rd sc S2 x, rd sc S2 y with
      | some p, some q => (R.of S2 (cop o p q)).bd fun r S3 => .ok (.d (.bool r)) S3
      | _, _ => .bad) P Px) {ρ : Ad} {H : Hp} {vx vy : V} {Q : V → Hp → Prop} (hS : StR X.K ρ H S2) (rx : RU X.K sc ρ H x vx) (ry : RU X.K sc ρ H y vy) (k : ∀ r, P (.d (.bool r)) S2 → Q (.bl r) H) : rCop X.K o vx vy H Q := by
  split at w
  · rename_i p q hp hq
    obtain ⟨r, e4, w⟩ := of_bd w
    exact cop_ok e4 (tp_of hS rx hp) (tp_of hS ry hq) (k r w)
  · exact w.elim
theorem s_cmp {o : Cop} (hu : X.A.units + 64 < cLine) (ha : PE X a (tE X.K sc E ga)) (hb : PE X b (tE X.K sc E gb)) (hm : behindInMarks o.op b = false) : PE X (.Compare a [o.op] [b] pos) (tE X.K sc E (gCmp sc o ga gb)) :=
  s_two (pe_cmpR (op_cop hu o) ha hb hm) fun x y S2 P Px w ρ H vx vy Q hS rx ry k => cmp_fin w hS rx ry fun r p => k _ _ p _ _ Kp.refl hS (DR.bl r)
/-- a bool's reading as a test -/
theorem s_test {e : Expr} {t : TE} {g : En → Sto → R U} (h : PT X e (tTest t)) (hb : ∀ σu S u S', g σu S = .ok u S' → ∃ b, u = .d (.bool b)) (k : ∀ σ H Q, tE X.K sc E g σ H Q → t σ H Q) : PT X e (tT X.K sc E fun σ S => (g σ S).bd (truU sc)) :=
  PT.imp h fun σ H Q ⟨ρ, σu, S, hS, hE, w⟩ => by
    refine k _ _ _ ⟨ρ, σu, S, hS, hE, ?_⟩
    have w := wp_bd w
    cases hg : g σu S with
    | ok u S1 =>
      rw [hg] at w
      obtain ⟨b, rfl⟩ := hb _ _ _ _ hg
      intro v H1 k1 s1 r1
      cases r1
      exact ⟨_, rfl, w _ _ k1 s1 rfl⟩
    | exc c S1 => rw [hg] at w; exact w
    | bad => rw [hg] at w; exact w
theorem s_cmpT {o : Cop} (hu : X.A.units + 64 < cLine) (ha : PE X a (tE X.K sc E ga)) (hb : PE X b (tE X.K sc E gb)) (hm : behindInMarks o.op b = false) : PT X (.Compare a [o.op] [b] pos) (tT X.K sc E fun σ S => (gCmp sc o ga gb σ S).bd (truU sc)) := by
  refine s_test (pt_cmpR (op_cop hu o) ha hb hm) (fun σu S u S' e => gCmp_bool e) fun σ H Q ⟨ρ, σu, S, hS, hE, w⟩ => ?_
  refine W.bd hS hE w fun x S1 vx H1 k1 s1 n1 r1 w => ?_
  refine W.bd s1 n1 w fun y S2 vy H2 k2 s2 n2 r2 w => ?_
  exact cmp_fin w s2 (r1.kp k2) r2 fun r p => p _ _ (k1.trans k2) s2 (DR.bl r)
def gChn (sc : List Int) (o o' : Cop) (ga gb gc : En → Sto → R U) : En → Sto → R U := fun σ S => (ga σ S).bd fun x S1 => (gb σ S1).bd fun y S2 =>
      match rd sc S2 x, rd sc S2 y with
      | some p, some q => (R.of S2 (cop o p q)).bd fun r S3 => if r then (gc σ S3).bd fun z S4 => match rd sc S4 y, rd sc S4 z with
          | some q', some t => (R.of S4 (cop o' q' t)).bd fun r S5 => .ok (.d (.bool r)) S5
          | _, _ => .bad
        else .ok (.d (.bool false)) S3
      | _, _ => .bad
theorem chn_imp {o o' : Cop} : ∀ σ H Q, tE X.K sc E (gChn sc o o' ga gb gc) σ H Q → tChain (rCop X.K o) (rCop X.K o') (tE X.K sc E ga) (tE X.K sc E gb) (tE X.K sc E gc) σ H Q := fun σ H Q ⟨ρ, σu, S, hS, hE, w⟩ => by
  refine W.bd hS hE w fun x S1 vx H1 k1 s1 n1 r1 w => ?_
  refine W.bd s1 n1 w fun y S2 vy H2 k2 s2 n2 r2 w => ?_
  split at w
  · rename_i p q' hp hq
    obtain ⟨r, e4, w⟩ := of_bd w
    refine cop_ok e4 (tp_of s2 (r1.kp k2) hp) (tp_of s2 r2 hq) ⟨r, rfl, ?_⟩
    cases r with
    | false => exact iteF (w _ _ (k1.trans k2) s2 (DR.bl false))
    | true =>
      refine iteT ?_
      have w : R.wp ((gc σu S2).bd _) _ _ := w
      refine W.bd s2 n2 w fun z S4 vz H3 k3 s3 n3 r3 w => ?_
      split at w
      · rename_i q2 t hq2 ht
        obtain ⟨r', e7, w⟩ := of_bd w
        exact cop_ok e7 (tp_of s3 (r2.kp k3) hq2) (tp_of s3 r3 ht) (w _ _ ((k1.trans k2).trans k3) s3 (DR.bl r'))
      · exact w.elim
  · exact w.elim
theorem gChn_bool {o o' : Cop} {σu : En} {S S' : Sto} {u : U} (e : gChn sc o o' ga gb gc σu S = .ok u S') : ∃ b, u = .d (.bool b) := by
  obtain ⟨x, S1, e1, e⟩ := bd_inv e
  obtain ⟨y, S2, e2, e⟩ := bd_inv e
  split at e
  · obtain ⟨r, S3, e3, e⟩ := bd_inv e
    cases r with
    | false => cases e; exact ⟨_, rfl⟩
    | true =>
      obtain ⟨z, S4, e5, e⟩ := bd_inv (show (gc σu S3).bd _ = _ from e)
      split at e
      · obtain ⟨r', S5, e6, e⟩ := bd_inv e
        cases e
        exact ⟨_, rfl⟩
      · cases e
  · cases e
theorem s_chn {o o' : Cop} (hu : X.A.units + 64 < cLine) (ha : PE X a (tE X.K sc E ga)) (hb : PE X b (tE X.K sc E gb)) (hc : PE X c (tE X.K sc E gc)) (hm : behindInMarks o'.op c = false) : PE X (.Compare a [o.op, o'.op] [b, c] pos) (tE X.K sc E (gChn sc o o' ga gb gc)) :=
  PE.imp (pe_chain (op_cop hu o) (op_cop hu o') ha hb hc (by show behindInMarks o'.op c = false; exact hm)) chn_imp
theorem s_chnT {o o' : Cop} (hu : X.A.units + 64 < cLine) (ha : PE X a (tE X.K sc E ga)) (hb : PE X b (tE X.K sc E gb)) (hc : PE X c (tE X.K sc E gc)) (hm : behindInMarks o'.op c = false) : PT X (.Compare a [o.op, o'.op] [b, c] pos) (tT X.K sc E fun σ S => (gChn sc o o' ga gb gc σ S).bd (truU sc)) :=
  s_test (pt_chain (op_cop hu o) (op_cop hu o') ha hb hc (by show behindInMarks o'.op c = false; exact hm)) (fun _ _ _ _ e => gChn_bool e) chn_imp
/-- is None -/
def gIsN (neg : Bool) (ga : En → Sto → R U) : En → Sto → R U := fun σ S => (ga σ S).bd fun x S1 => match x with
      | .d .none => .ok (.d (.bool !neg)) S1
      | _ => .ok (.d (.bool neg)) S1
theorem isN_imp {neg : Bool} (σ : L2.St) (H : Hp) (Q : V → Hp → Prop) (h : tE X.K sc E (gIsN neg ga) σ H Q) : (tE X.K sc E ga) σ H fun x H1 => Q (.bl (if neg then !decide (x = .non) else decide (x = .non))) H1 := by
  obtain ⟨ρ, σu, S, hS, hE, w⟩ := h
  refine W.bd hS hE w fun x S1 vx H1 k1 s1 n1 r1 w => ?_
  split at w
  · cases r1
    have := w _ _ k1 s1 (DR.bl _)
    cases neg <;> exact this
  · rename_i hx
    have hv : vx ≠ .non := by
      rintro rfl
      cases x with
      | d y => cases r1; exact hx rfl
      | c n => obtain ⟨a, _, z⟩ := r1; cases z
      | s => obtain ⟨a, z, _⟩ := r1; cases z
    rw [decide_eq_false hv]
    have := w _ _ k1 s1 (DR.bl _)
    cases neg <;> exact this
theorem s_isN {neg : Bool} {j pos'} (ha : PE X a (tE X.K sc E ga)) : PE X (.Compare a [if neg then .IsNot else .Is] [.Constant .none j pos'] pos) (tE X.K sc E (gIsN neg ga)) := by
  cases neg with
  | false => exact PE.imp (pe_cmp (pc_isN ha)) fun σ H Q h => isN_imp σ H Q h
  | true => exact PE.imp (pe_cmp (pc_notN ha)) fun σ H Q h => isN_imp σ H Q h
theorem s_isNT {neg : Bool} {j pos'} (ha : PE X a (tE X.K sc E ga)) : PT X (.Compare a [if neg then .IsNot else .Is] [.Constant .none j pos'] pos) (tT X.K sc E fun σ S => (gIsN neg ga σ S).bd (truU sc)) := by
  have hb : ∀ σu S u S', gIsN neg ga σu S = .ok u S' → ∃ b, u = .d (.bool b) := fun σu S u S' e => by
    obtain ⟨x, S1, e1, e⟩ := bd_inv e
    split at e <;> (cases e; exact ⟨_, rfl⟩)
  cases neg with
  | false => exact s_test (t := tIsN (tE X.K sc E ga)) (pt_cmp (pc_isN ha)) hb fun σ H Q h => isN_imp σ H Q h
  | true => exact s_test (t := tNotN (tE X.K sc E ga)) (pt_cmp (pc_notN ha)) hb fun σ H Q h => isN_imp σ H Q h
end
end Ev

set_option Elab.async false
set_option linter.all false
set_option maxRecDepth 100000
set_option maxHeartbeats 1000000
namespace Ev
open PySem L2
open PyProof.Rows hiding St
section
variable {X : Cx} {sc : List Int} {E : XW} {a b c : Expr} {rest : List Expr} {ga gb gc : En → Sto → R U} {pos : Pos}
theorem tru_wp {u : U} {S : Sto} {P : Bool → Sto → Prop} {Px : Str → Sto → Prop} (w : (truU sc u S).wp P Px) : ∃ d c, rd sc S u = some d ∧ truP d = some c ∧ P c S := by
  obtain ⟨c, e, p⟩ := of_wp w
  cases h : rd sc S u with
  | none => rw [h] at e; cases e
  | some d => rw [h] at e; exact ⟨d, c, rfl, e, p⟩
theorem tru_mk {u : U} {S : Sto} {d : PyData} {c : Bool} {P : Bool → Sto → Prop} {Px : Str → Sto → Prop} (h1 : rd sc S u = some d) (h2 : truP d = some c) (p : P c S) : (truU sc u S).wp P Px := by
  unfold truU
  rw [h1, Option.bind_some, h2]
  exact p
theorem tru_of {ρ : Ad} {H : Hp} {v : V} {d : PyData} {c : Bool} (t : Tp X.K ρ H v d) (e : truP d = some c) : TruV X.K v H c := by
  unfold truP at e
  cases t with
  | non => cases e; rfl
  | bl b => cases e; rfl
  | int i => cases e; rfl
  | str x =>
    dsimp only at e
    split at e
    · rename_i h
      cases e
      exact ⟨h, rfl⟩
    · cases e
  | lst h q =>
    cases e
    refine .inl ⟨_, h, ?_⟩
    cases q <;> rfl
  | tup h _ q =>
    cases e
    refine .inr (.inl ⟨_, h, ?_⟩)
    cases q <;> rfl
/-- any value's truth -/
theorem s_truT (ha : PE X a (tE X.K sc E ga)) (he : ∀ whole, isTrue a X.env whole = (do let v ← whole; standAt a.pos; holding [v] (truthy v))) : PT X a (tT X.K sc E fun σ S => (ga σ S).bd (truU sc)) :=
  PT.imp (pt_truth ha he) fun σ H Q ⟨ρ, σu, S, hS, hE, w⟩ => by
    refine W.bd hS hE w fun x S1 v H1 k1 s1 n1 r1 w => ?_
    obtain ⟨d, c, h1, h2, p⟩ := tru_wp w
    exact ⟨c, tru_of (tp_of s1 r1 h1) h2, p _ _ k1 s1 rfl⟩
/-! ### and, or -/
def gAnd (sc : List Int) (ga gb : En → Sto → R U) : En → Sto → R U := fun σ S => (ga σ S).bd fun u S1 => (truU sc u S1).bd fun c S2 => if c then gb σ S2 else .ok u S2
def gOr (sc : List Int) (ga gb : En → Sto → R U) : En → Sto → R U := fun σ S => (ga σ S).bd fun u S1 => (truU sc u S1).bd fun c S2 => if c then .ok u S2 else gb σ S2
theorem s_and (ha : PE X a (tE X.K sc E ga)) (hb : PE X (.BoolOp .And (b :: rest) pos) (tE X.K sc E gb)) : PE X (.BoolOp .And (a :: b :: rest) pos) (tE X.K sc E (gAnd sc ga gb)) := by
  intro pins s σ H Q I h
  obtain ⟨ρ, σu, S, hS, hE, w⟩ := h
  have st := ha pins s σ H _ I (W.get hS hE (wp_bd w))
  refine BoolOp_and (thn st fun v s1 ⟨y, H1, I1, ry, x, S1, k1, t1, n1, r1, w⟩ => ?_)
  obtain ⟨d, c, h1, h2, w⟩ := tru_wp (wp_bd w)
  refine thn (tru_ok pins s1 σ H1 y v (fun k H' => k = c ∧ H' = H1) I1 ry ⟨c, tru_of (tp_of t1 r1 h1) h2, rfl, rfl⟩) fun k s2 ⟨H2, I2, e3, e4⟩ => ?_
  subst e3 e4
  cases k with
  | true => exact hb pins s2 σ H2 Q I2 (W.at t1 n1 k1 w)
  | false => exact ⟨y, H2, I2, ry, w y H2 k1 t1 r1⟩
theorem s_or (ha : PE X a (tE X.K sc E ga)) (hb : PE X (.BoolOp .Or (b :: rest) pos) (tE X.K sc E gb)) : PE X (.BoolOp .Or (a :: b :: rest) pos) (tE X.K sc E (gOr sc ga gb)) := by
  intro pins s σ H Q I h
  obtain ⟨ρ, σu, S, hS, hE, w⟩ := h
  have st := ha pins s σ H _ I (W.get hS hE (wp_bd w))
  refine BoolOp_or (thn st fun v s1 ⟨y, H1, I1, ry, x, S1, k1, t1, n1, r1, w⟩ => ?_)
  obtain ⟨d, c, h1, h2, w⟩ := tru_wp (wp_bd w)
  refine thn (tru_ok pins s1 σ H1 y v (fun k H' => k = c ∧ H' = H1) I1 ry ⟨c, tru_of (tp_of t1 r1 h1) h2, rfl, rfl⟩) fun k s2 ⟨H2, I2, e3, e4⟩ => ?_
  subst e3 e4
  cases k with
  | false => exact hb pins s2 σ H2 Q I2 (W.at t1 n1 k1 w)
  | true => exact ⟨y, H2, I2, ry, w y H2 k1 t1 r1⟩
theorem PW.imp {e : Expr} {t t' : TT} (h : PW X e t) (k : ∀ σ H Q, t' σ H Q → t σ H Q) : PW X e t' := fun wh pins s σ H Q I w => h wh pins s σ H Q I (k _ _ _ w)
theorem s_andW (ha : PT X a (tT X.K sc E fun σ S => (ga σ S).bd (truU sc))) (hb : PW X (.BoolOp .And (b :: rest) pos) (tT X.K sc E fun σ S => (gb σ S).bd (truU sc))) :
    PW X (.BoolOp .And (a :: b :: rest) pos) (tT X.K sc E fun σ S => (gAnd sc ga gb σ S).bd (truU sc)) :=
  PW.imp (pw_and ha hb) fun σ H Q ⟨ρ, σu, S, hS, hE, w⟩ => by
    refine ⟨ρ, σu, S, hS, hE, wp_bd' ((wp_bd (wp_bd w)).mono (fun u S1 w => ?_) fun _ _ x => x)⟩
    obtain ⟨d, c, h1, h2, w⟩ := tru_wp (wp_bd w)
    refine tru_mk h1 h2 fun b H1 k1 s1 r1 => ?_
    cases r1
    cases c with
    | true => exact iteT (W.at s1 (hE.kp k1) k1 (wp_bd' w))
    | false =>
      obtain ⟨d', c', h1', h2', p⟩ := tru_wp (show (truU sc u S1).wp _ _ from w)
      rw [h1] at h1'
      cases h1'
      rw [h2] at h2'
      cases h2'
      exact iteF (p _ H1 k1 s1 rfl)
theorem s_orW (ha : PT X a (tT X.K sc E fun σ S => (ga σ S).bd (truU sc))) (hb : PW X (.BoolOp .Or (b :: rest) pos) (tT X.K sc E fun σ S => (gb σ S).bd (truU sc))) :
    PW X (.BoolOp .Or (a :: b :: rest) pos) (tT X.K sc E fun σ S => (gOr sc ga gb σ S).bd (truU sc)) :=
  PW.imp (pw_or ha hb) fun σ H Q ⟨ρ, σu, S, hS, hE, w⟩ => by
    refine ⟨ρ, σu, S, hS, hE, wp_bd' ((wp_bd (wp_bd w)).mono (fun u S1 w => ?_) fun _ _ x => x)⟩
    obtain ⟨d, c, h1, h2, w⟩ := tru_wp (wp_bd w)
    refine tru_mk h1 h2 fun b H1 k1 s1 r1 => ?_
    cases r1
    cases c with
    | false => exact iteF (W.at s1 (hE.kp k1) k1 (wp_bd' w))
    | true =>
      obtain ⟨d', c', h1', h2', p⟩ := tru_wp (show (truU sc u S1).wp _ _ from w)
      rw [h1] at h1'
      cases h1'
      rw [h2] at h2'
      cases h2'
      exact iteT (p _ H1 k1 s1 rfl)
/-! ### not, a if t else b -/
def gNot (sc : List Int) (ga : En → Sto → R U) : En → Sto → R U := fun σ S => ((ga σ S).bd (truU sc)).bd fun c S1 => .ok (.d (.bool !c)) S1
theorem s_not (ha : PE X a (tE X.K sc E ga)) : PE X (.UnaryOp .Not a pos) (tE X.K sc E (gNot sc ga)) := by
  intro pins s σ H Q I h
  obtain ⟨ρ, σu, S, hS, hE, w⟩ := h
  have w := wp_bd (wp_bd w)
  have st := ha pins s σ H _ I (W.get hS hE w)
  refine UnaryOp_ (thn st fun v s1 ⟨y, H1, I1, ry, x, S1, k1, t1, n1, r1, w⟩ => ?_)
  obtain ⟨d, c, h1, h2, w⟩ := tru_wp w
  refine not_of (thn (tru_ok pins s1 σ H1 y v (fun k H' => k = c ∧ H' = H1) I1 ry ⟨c, tru_of (tp_of t1 r1 h1) h2, rfl, rfl⟩) fun k s2 ⟨H2, I2, e5, e6⟩ => ?_)
  subst e5 e6
  exact ⟨.bl (!k), H2, I2, rfl, w _ _ k1 t1 (DR.bl _)⟩
theorem s_notT (ha : PT X a (tT X.K sc E fun σ S => (ga σ S).bd (truU sc))) : PT X (.UnaryOp .Not a pos) (tT X.K sc E fun σ S => (gNot sc ga σ S).bd (truU sc)) :=
  PT.imp (pt_not ha) fun σ H Q ⟨ρ, σu, S, hS, hE, w⟩ => by
    refine W.go hS hE (wp_bd (wp_bd w)) fun c S1 b H1 p k1 s1 n1 r1 => ?_
    cases r1
    exact p _ _ k1 s1 rfl
def gIf (sc : List Int) (gc ga gb : En → Sto → R U) : En → Sto → R U := fun σ S => ((gc σ S).bd (truU sc)).bd fun t S1 => if t then ga σ S1 else gb σ S1
theorem s_ife (hc : PT X c (tT X.K sc E fun σ S => (gc σ S).bd (truU sc))) (ha : PE X a (tE X.K sc E ga)) (hb : PE X b (tE X.K sc E gb)) : PE X (.IfExp c a b pos) (tE X.K sc E (gIf sc gc ga gb)) :=
  PE.imp (pe_ifExp hc ha hb) fun σ H Q ⟨ρ, σu, S, hS, hE, w⟩ => by
    refine W.bd hS hE w fun t S1 b H1 k1 s1 n1 r1 w => ?_
    cases r1
    cases t with
    | true => exact iteT (W.on s1 n1 k1 w)
    | false => exact iteF (W.on s1 n1 k1 w)
theorem s_ifeT (hc : PT X c (tT X.K sc E fun σ S => (gc σ S).bd (truU sc))) (ha : PT X a (tT X.K sc E fun σ S => (ga σ S).bd (truU sc))) (hb : PT X b (tT X.K sc E fun σ S => (gb σ S).bd (truU sc))) :
    PT X (.IfExp c a b pos) (tT X.K sc E fun σ S => (gIf sc gc ga gb σ S).bd (truU sc)) := by
  intro pins s σ H Q I h
  obtain ⟨ρ, σu, S, hS, hE, w⟩ := h
  have st := hc pins s σ H _ I (W.get hS hE (wp_bd (wp_bd w)))
  refine isTrue_IfExp (thn st fun v s1 ⟨H1, I1, t, S2, k1, t1, n1, r1, w⟩ => ?_)
  cases r1
  cases v with
  | true => exact ha pins s1 σ H1 Q I1 (W.at t1 n1 k1 (wp_bd' (show (ga σu S2).wp _ _ from w)))
  | false => exact hb pins s1 σ H1 Q I1 (W.at t1 n1 k1 (wp_bd' (show (gb σu S2).wp _ _ from w)))
/-! ### -a -/
def gNeg (ga : En → Sto → R U) : En → Sto → R U := fun σ S => (ga σ S).bd fun x S1 => match x with
      | .d (.int i) => .ok (.d (.int (-i))) S1
      | _ => .bad
theorem s_neg (ha : PE X a (tE X.K sc E ga)) : PE X (.UnaryOp .USub a pos) (tE X.K sc E (gNeg ga)) :=
  PE.imp (pe_un un_neg ha) fun σ H Q ⟨ρ, σu, S, hS, hE, w⟩ => by
    refine W.bd hS hE w fun x S1 v H1 k1 s1 n1 r1 w => ?_
    split at w
    · cases r1
      exact ⟨_, rfl, w _ _ k1 s1 (DR.int _)⟩
    · exact w.elim
/-! ### argument lists -/
def gNil : En → Sto → R (List U) := fun _ S => .ok [] S
def gCons (ga : En → Sto → R U) (gs : En → Sto → R (List U)) : En → Sto → R (List U) := fun σ S => (ga σ S).bd fun u S1 => (gs σ S1).bd fun us S2 => .ok (u :: us) S2
theorem s_nil : PA X [] (tA X.K sc E gNil) := PA.imp pa_nil fun σ H Q ⟨ρ, σu, S, hS, hE, w⟩ => w _ _ Kp.refl hS .nil
theorem RUs.kp {ρ : Ad} {H H' : Hp} (k : Kp ρ H H') : ∀ {us : List U} {vs : List V}, RUs X.K sc ρ H us vs → RUs X.K sc ρ H' us vs
  | _, _, .nil => .nil
  | _, _, .cons r t => .cons (r.kp k) (RUs.kp k t)
theorem s_cons {gs : En → Sto → R (List U)} (ha : PE X a (tE X.K sc E ga)) (hr : PA X rest (tA X.K sc E gs)) (hs : starEach (a :: rest) X.env = (false, eval a X.env) :: starEach rest X.env) : PA X (a :: rest) (tA X.K sc E (gCons ga gs)) :=
  PA.imp (pa_cons ha hr hs) fun σ H Q ⟨ρ, σu, S, hS, hE, w⟩ => by
    refine W.bd hS hE w fun x S1 v H1 k1 s1 n1 r1 w => ?_
    refine W.bd s1 n1 w fun xs S2 vs H2 k2 s2 n2 r2 w => ?_
    exact w _ _ (k1.trans k2) s2 (.cons (r1.kp k2) r2)
/-! ### displays -/
theorem mapM_asD : ∀ {us : List U} {xs : List PyData} {ρ : Ad} {H : Hp} {vs : List V}, us.mapM asD = some xs → RUs X.K sc ρ H us vs → DRs X.K ρ H vs xs
  | [], xs, _, _, _, e, .nil => by cases e; exact .nil
  | u :: us, xs, ρ, H, _, e, .cons r t => by
    rw [List.mapM_cons] at e
    cases h : asD u with
    | none => rw [h] at e; cases e
    | some x =>
      rw [h] at e
      cases h2 : us.mapM asD with
      | none => rw [h2] at e; cases e
      | some ys =>
        rw [h2] at e
        cases e
        cases u with
        | d y => cases h; exact .cons r (mapM_asD h2 t)
        | c n => cases h
        | s => cases h
def gTupD (gs : En → Sto → R (List U)) : En → Sto → R U := fun σ S => (gs σ S).bd fun us S1 => match us.mapM asD with
      | some xs => if xs.length ≤ sizeLine then .ok (.d (.tuple xs)) S1 else .bad
      | none => .bad
def gLstD (gs : En → Sto → R (List U)) : En → Sto → R U := fun σ S => (gs σ S).bd fun us S1 => match us.mapM asD with
      | some xs => if xs.length ≤ sizeLine then .ok (.d (.list xs)) S1 else .bad
      | none => .bad
theorem s_tup {gs : En → Sto → R (List U)} {k : Nat} (h : PA X rest (tA X.K sc E gs)) : PE X (.Tuple rest k pos) (tE X.K sc E (gTupD gs)) :=
  PE.imp (pe_tup h) fun σ H Q ⟨ρ, σu, S, hS, hE, w⟩ => by
    refine W.bd hS hE w fun us S1 vs H1 k1 s1 n1 r1 w => ?_
    split at w
    · rename_i xs hx
      split at w
      · rename_i hl
        have r2 := mapM_asD hx r1
        exact ⟨by rw [r2.length]; exact hl, fun p hp => fin_tup s1 r2 hp fun v H' k2 => w v H' (k1.trans k2)⟩
      · exact w.elim
    · exact w.elim
theorem s_lst {gs : En → Sto → R (List U)} (h : PA X rest (tA X.K sc E gs)) : PE X (.List rest pos) (tE X.K sc E (gLstD gs)) :=
  PE.imp (pe_lst h) fun σ H Q ⟨ρ, σu, S, hS, hE, w⟩ => by
    refine W.bd hS hE w fun us S1 vs H1 k1 s1 n1 r1 w => ?_
    split at w
    · rename_i xs hx
      split at w
      · rename_i hl
        have r2 := mapM_asD hx r1
        exact ⟨by rw [r2.length]; exact hl, fun p hp => fin_lst s1 r2 hp fun v H' k2 => w v H' (k1.trans k2)⟩
      · exact w.elim
    · exact w.elim
/-! ### a[b] -/
def gIx (sc : List Int) (ga gb : En → Sto → R U) : En → Sto → R U := fun σ S => (ga σ S).bd fun x S1 => (gb σ S1).bd fun y S2 =>
      match rd sc S2 x, rd sc S2 y with
      | some p, some q => (R.of S2 (ixP p q)).bd fun r S3 => .ok (.d r) S3
      | _, _ => .bad
theorem s_ix (ha : PE X a (tE X.K sc E ga)) (hb : PE X b (tE X.K sc E gb)) (hs : PlainIx b) : PE X (.Subscript a b pos) (tE X.K sc E (gIx sc ga gb)) := by
  refine s_two (pe_ix ix_seq ha hb hs) fun x y S2 P Px w ρ H vx vy Q hS rx ry k => ?_
  split at w
  · rename_i p q hp hq
    obtain ⟨r, e4, w⟩ := of_bd w
    have k := k _ _ w
    have tx := tp_of hS rx hp
    have ty := tp_of hS ry hq
    unfold ixP at e4
    split at e4
    · cases ty
      cases tx with
      | lst h1 h2 =>
        obtain ⟨v, ev, rv⟩ := h2.at e4
        exact .inl ⟨_, _, _, v, rfl, rfl, h1, ev, k _ _ Kp.refl hS rv⟩
    · cases ty
      cases tx with
      | tup h1 _ h2 =>
        obtain ⟨v, ev, rv⟩ := h2.at e4
        exact .inr (.inl ⟨_, _, _, v, rfl, rfl, h1, ev, k _ _ Kp.refl hS rv⟩)
    · cases ty
      cases tx
      split at e4
      · rename_i z i hl
        cases hc : atI z.cps.toList i with
        | none => rw [hc] at e4; cases e4
        | some c =>
          rw [hc] at e4
          cases e4
          exact .inr (.inr ⟨_, _, c, rfl, rfl, hl, hc, k _ _ Kp.refl hS (DR.str _)⟩)
      · cases e4
    · cases e4
  · exact w.elim
/-! ### a def of the text -/
/-- an exception's class, as its name -/
def cv (c : Str) : Value := .str c default
def spOf (K : PySem.W.Frag) (sc : List Int) (np : Nat) (g : List U → Sto → R U) : Sp := fun vs H Q E => vs.length = np ∧ ∃ ρ us S, StR K ρ H S ∧ RUs K sc ρ H us vs ∧
  (g us S).wp (fun u S' => ∀ v H', Kp ρ H H' → StR K ρ H' S' → RU K sc ρ H' u v → Q v H') (fun c S' => ∀ H', Kp ρ H H' → StR K ρ H' S' → E (cv c) none H')
def gCall (gs : En → Sto → R (List U)) (g : List U → Sto → R U) : En → Sto → R U := fun σ S => (gs σ S).bd fun us S1 => g us S1
theorem RUs.length {ρ : Ad} {H : Hp} {us : List U} {vs : List V} (r : RUs X.K sc ρ H us vs) : us.length = vs.length := Paired.length r
/-- no argument is starred -/
def NoStar (X : Cx) (es : List Expr) : Prop := ∀ e ∈ es, ∀ es', starEach (e :: es') X.env = (false, eval e X.env) :: starEach es' X.env
theorem NoStar.any {X : Cx} {pos : Pos} : ∀ {es : List Expr}, NoStar X es → (backTo pos (starEach es X.env)).any (·.1) = false
  | [], _ => rfl
  | y :: ys, hh => by
    rw [hh y List.mem_cons_self ys]
    show (false || (backTo pos (starEach ys X.env)).any (·.1)) = false
    rw [NoStar.any fun z hz => hh z (List.mem_cons_of_mem _ hz)]
    rfl
end
end Ev

set_option Elab.async false
set_option linter.all false
set_option maxRecDepth 100000
set_option maxHeartbeats 1000000
/-! min of two values of any kind: the comparison leans on the heap -/
namespace Ev
open PySem L2
open PyProof.Rows hiding St
section
variable {prog : Program} {w : World} {A : Around} {R : Result → Shared → Prop} {E : Value → Shared → Prop} {s : Shared} {I : Addr} {fp wr : List Addr} {P : Nat → Value → Prop} {St : Nat → Heap → Prop}
/-- what stands in hb stands in h -/
def Over (hb h : Heap) : Prop := ∀ c o, hb.get? c = some o → h.get? c = some o
/-- the comparison of the second with the first, wherever hb stands -/
def CmpIn (prog : Program) (w : World) (A : Around) (hb : Heap) (v u : Value) (b : Bool) : Prop :=
  ∀ (s : Shared) (Q : Value → Shared → Prop) (E : Value → Shared → Prop), Over hb s.heap → Q (.bool b) s → wpAny (model prog w) A (richCompare .Lt v u) Q E s
theorem minLast (W : Walks prog w A.in1 I fp wr 2 P St) (S : Addr) (hSf : S ∉ fp) {c : Nat} {vb : Value} (hst : St 2 s.heap) (hS : s.heap.get? S = some { cls := .type "list", dict := none, data := .seq #[vb, vb] c, slots := #[] })
    (hR : ∀ h' tk, (∀ b o, b ∉ wr → b ≠ S → s.heap.get? b = some o → h'.get? b = some o) → R (.ok (.ret vb)) { s with heap := h', toks := tk }) :
    codeAny (model prog w) A (.builtin "min.loop" ⟨[.ref I, .none, .ref S], []⟩) R s := by
  have hSw : S ∉ wr := fun h => hSf (W.sub _ h)
  refine codeAny_builtin F.entry_min_loop ?_
  rw [Around.under_plainId F.plain_min_loop _]
  show wpAny _ A.in1 (seqItems? (.ref S) >>= _) _ _ s
  refine wpAny_bind (wpAny_seqItems hS rfl ?_)
  show wpAny _ A.in1 (tryCatch (pyNext (.ref I)) _ >>= _) _ _ s
  refine wpAny_bind (wpAny_tryCatch (W.done s _ _ hst fun h' tk hk' => ?_))
  have hS' := hk' S _ hSw hS
  show wpAny _ A.in1 (updateSeq S (fun _ => #[]) >>= _) _ _ _
  refine wpAny_bind (wpAny_updateSeq hS' rfl (wpAny_bind (wpAny_letGo (wpAny_pure ?_))))
  exact hR _ tk fun b o hbw hbS e => (Heap.get?_update_other _ _ (Ne.symm hbS)).trans (hk' b o hbw e)
theorem minMid (W : Walks prog w A.in1 I fp wr 2 P St) (S : Addr) (hSf : S ∉ fp) {hb : Heap} (hf : ∀ c o, hb.get? c = some o → c ∉ wr ∧ c ≠ S) {c : Nat} {v u : Value} {b : Bool} (hP : ∀ v', P 1 v' → v' = v) (hcmp : CmpIn prog w A.in1 hb v u b)
    (ho : Over hb s.heap) (hst : St 1 s.heap) (hS : s.heap.get? S = some { cls := .type "list", dict := none, data := .seq #[u, u] c, slots := #[] })
    (hR : ∀ h' tk, (∀ b o, b ∉ wr → b ≠ S → s.heap.get? b = some o → h'.get? b = some o) → R (.ok (.ret (if b then v else u))) { s with heap := h', toks := tk }) :
    codeAny (model prog w) A (.builtin "min.loop" ⟨[.ref I, .none, .ref S], []⟩) R s := by
  have hSw : S ∉ wr := fun h => hSf (W.sub _ h)
  have hname : (toString "min" ++ toString ".loop" : String) = "min.loop" := by decide
  refine codeAny_builtin F.entry_min_loop ?_
  rw [Around.under_plainId F.plain_min_loop _]
  show wpAny _ A.in1 (seqItems? (.ref S) >>= _) _ _ s
  refine wpAny_bind (wpAny_seqItems hS rfl ?_)
  show wpAny _ A.in1 (tryCatch (pyNext (.ref I)) _ >>= _) _ _ s
  refine wpAny_bind (wpAny_tryCatch (W.item 1 s _ _ (by decide) hst fun v' h' tk hP' hst' hk' => ?_))
  have ev := hP v' hP'
  subst ev
  have hS' := hk' S _ hSw hS
  show wpAny _ A.in1 (tryCatch (holding [v', v'] (richCompare .Lt v' u >>= _)) _ >>= _) _ _ _
  refine wpAny_bind (wpAny_tryCatch (wpAny_holding (wpAny_bind (hcmp _ _ _ (fun c o e => hk' c o (hf c o e).1 (ho c o e)) ?_))))
  refine wpAny_bind (wpAny_holding (wpAny_truthy_bool ?_))
  refine wpAny_bind (wpAny_letGo (wpAny_pure ?_))
  cases b with
  | true =>
    simp only [if_true]
    refine wpAny_bind (wpAny_updateSeq hS' rfl (wpAny_bind (wpAny_letGo ?_)))
    rw [hname]
    refine wpAny_pure ⟨plainId_quiet F.plain_min_loop _, minLast W S hSf (W.frame _ _ _ hst' fun b hbf o e => ?_) (Heap.get?_update_self _ hS' rfl) fun h'' tk'' hk'' => ?_⟩
    · exact (Heap.get?_update_other _ _ (fun h : S = b => hSf (by rw [h]; exact hbf))).trans e
    · exact hR h'' tk'' fun b o hbw hbS e => hk'' b o hbw hbS ((Heap.get?_update_other _ _ (Ne.symm hbS)).trans (hk' b o hbw e))
  | false =>
    simp only [Bool.false_eq_true, if_false]
    refine wpAny_bind (wpAny_letGo ?_)
    rw [hname]
    refine wpAny_pure ⟨plainId_quiet F.plain_min_loop _, minLast W S hSf hst' hS' fun h'' tk'' hk'' => ?_⟩
    exact hR h'' tk'' fun b o hbw hbS e => hk'' b o hbw hbS (hk' b o hbw e)
theorem minFirst (W : Walks prog w A.in1 I fp wr 2 P St) (S : Addr) (hSf : S ∉ fp) {hb : Heap} (hf : ∀ c o, hb.get? c = some o → c ∉ wr ∧ c ≠ S) {c : Nat} {v u : Value} {b : Bool} (hP0 : ∀ v', P 0 v' → v' = u) (hP : ∀ v', P 1 v' → v' = v)
    (hcmp : CmpIn prog w A.in1 hb v u b) (ho : Over hb s.heap) (hst : St 0 s.heap) (hS : s.heap.get? S = some { cls := .type "list", dict := none, data := .seq #[] c, slots := #[] })
    (hR : ∀ h' tk, (∀ b o, b ∉ wr → b ≠ S → s.heap.get? b = some o → h'.get? b = some o) → R (.ok (.ret (if b then v else u))) { s with heap := h', toks := tk }) :
    codeAny (model prog w) A (.builtin "min.loop" ⟨[.ref I, .none, .ref S], []⟩) R s := by
  have hSw : S ∉ wr := fun h => hSf (W.sub _ h)
  have hname : (toString "min" ++ toString ".loop" : String) = "min.loop" := by decide
  refine codeAny_builtin F.entry_min_loop ?_
  rw [Around.under_plainId F.plain_min_loop _]
  show wpAny _ A.in1 (seqItems? (.ref S) >>= _) _ _ s
  refine wpAny_bind (wpAny_seqItems hS rfl ?_)
  show wpAny _ A.in1 (tryCatch (pyNext (.ref I)) _ >>= _) _ _ s
  refine wpAny_bind (wpAny_tryCatch (W.item 0 s _ _ (by decide) hst fun v' h' tk hP' hst' hk' => ?_))
  have ev := hP0 v' hP'
  subst ev
  have hS' := hk' S _ hSw hS
  show wpAny _ A.in1 (updateSeq S (fun _ => #[v', v']) >>= _) _ _ _
  refine wpAny_bind (wpAny_updateSeq hS' rfl ?_)
  rw [hname]
  refine wpAny_pure ⟨plainId_quiet F.plain_min_loop _, minMid W S hSf hf hP hcmp (fun c o e => ?_) (W.frame _ _ _ hst' fun b hbf o e => ?_) (Heap.get?_update_self _ hS' rfl) fun h'' tk'' hk'' => ?_⟩
  · exact (Heap.get?_update_other _ _ (Ne.symm (hf c o e).2)).trans (hk' c o (hf c o e).1 (ho c o e))
  · exact (Heap.get?_update_other _ _ (fun h : S = b => hSf (by rw [h]; exact hbf))).trans e
  · exact hR h'' tk'' fun b o hbw hbS e => hk'' b o hbw hbS ((Heap.get?_update_other _ _ (Ne.symm hbS)).trans (hk' b o hbw e))
theorem callMin {u v : Value} {b : Bool} {Q : Value → Shared → Prop} (hh : A.handled = none) (hcmp : CmpIn prog w A.in1 s.heap v u b)
    (h : ∀ h' tk, Over s.heap h' → Q (if b then v else u) { s with heap := h', toks := tk }) : wpAny (model prog w) A (call (.builtin "min") [u, v]) Q E s := by
  have hname : (toString "min" ++ toString ".loop" : String) = "min.loop" := by decide
  refine call_function_tree F.kind_min F.plain_min F.entry_min (F.args_min2 _ _) ?_
  show wpAny _ A.in1 (Builtin.Builtins.bindParams "min" ["key", "default"] 0 ⟨[], []⟩ >>= _) _ _ s
  refine wpAny_bind (wpAny_of_eq (show Builtin.Builtins.bindParams "min" ["key", "default"] 0 ⟨[], []⟩ = pure [none, none] from rfl) ?_)
  show wpAny _ A.in1 (newTuple [u, v] >>= _) _ _ s
  refine wpAny_bind (wpAny_newObj_type ?_)
  have hT : (s.heap.push { cls := .type "tuple", data := .seq #[u, v] }).IsTuple s.heap.objs.size #[u, v] := ⟨_, Heap.get?_push_size _ rfl, rfl, 0, rfl⟩
  have hsz : (s.heap.push { cls := .type "tuple", data := .seq #[u, v] }).objs.size = s.heap.objs.size + 1 := Heap.size_push ..
  refine wpAny_bind (wpAny_pyIter_tuple hT ?_)
  have W := Walks.tuple (prog := prog) (w := w) (A := A.in1) hh (s.heap.push { cls := .type "tuple", data := .seq #[u, v] }).objs.size s.heap.objs.size (by rw [hsz]; exact Nat.ne_of_lt (Nat.lt_succ_self _)) #[u, v]
  refine wpAny_bind (wpAny_newObj_type ?_)
  rw [hname]
  have lt : ∀ c o, s.heap.get? c = some o → c < s.heap.objs.size := fun c o e => Heap.lt_size e
  refine wpAny_pure ⟨plainId_quiet F.plain_min_loop _, minFirst W _ (fun hm => ?_) (hb := s.heap) (fun c o e => ⟨fun hm => ?_, fun hm => ?_⟩) (v := v) (u := u) (fun v' e => ?_) (fun v' e => ?_) hcmp (fun c o e => ?_) ⟨?_, ?_⟩ (Heap.get?_push_size _ rfl) fun h' tk hk => ?_⟩
  · have e1 : ((s.heap.push { cls := .type "tuple", data := .seq #[u, v] }).push { cls := .type "tuple_iterator", data := .fields #[.ref s.heap.objs.size, .int 0 0] }).objs.size = s.heap.objs.size + 2 := by rw [Heap.size_push, hsz]
    have hm : ((s.heap.push { cls := .type "tuple", data := .seq #[u, v] }).push { cls := .type "tuple_iterator", data := .fields #[.ref s.heap.objs.size, .int 0 0] }).objs.size ∈ [(s.heap.push { cls := .type "tuple", data := .seq #[u, v] }).objs.size, s.heap.objs.size] := hm
    rw [e1, hsz] at hm
    simp at hm
  · have := lt c o e
    have hm := List.mem_singleton.mp hm
    rw [hsz] at hm
    rw [hm] at this
    exact absurd this (Nat.not_lt.mpr (Nat.le_add_right _ _))
  · have := lt c o e
    have e1 : ((s.heap.push { cls := .type "tuple", data := .seq #[u, v] }).push { cls := .type "tuple_iterator", data := .fields #[.ref s.heap.objs.size, .int 0 0] }).objs.size = s.heap.objs.size + 2 := by rw [Heap.size_push, hsz]
    have hm : c = ((s.heap.push { cls := .type "tuple", data := .seq #[u, v] }).push { cls := .type "tuple_iterator", data := .fields #[.ref s.heap.objs.size, .int 0 0] }).objs.size := hm
    rw [e1] at hm
    rw [hm] at this
    exact absurd this (Nat.not_lt.mpr (Nat.le_add_right _ _))
  · simpa using e.symm
  · simpa using e.symm
  · exact Heap.get?_push_of_some _ (Heap.get?_push_of_some _ (Heap.get?_push_of_some _ e))
  · exact ⟨_, Heap.get?_push_of_some _ (Heap.get?_push_size _ rfl), rfl, rfl⟩
  · exact (hT.push _).push _
  · refine h h' tk fun c o e => hk c o (fun hm => ?_) (fun hm => ?_) (Heap.get?_push_of_some _ (Heap.get?_push_of_some _ (Heap.get?_push_of_some _ e)))
    · have := lt c o e
      have hm := List.mem_singleton.mp hm
      rw [hsz] at hm
      rw [hm] at this
      exact absurd this (Nat.not_lt.mpr (Nat.le_add_right _ _))
    · have := lt c o e
      have e1 : ((s.heap.push { cls := .type "tuple", data := .seq #[u, v] }).push { cls := .type "tuple_iterator", data := .fields #[.ref s.heap.objs.size, .int 0 0] }).objs.size = s.heap.objs.size + 2 := by rw [Heap.size_push, hsz]
      have hm : c = ((s.heap.push { cls := .type "tuple", data := .seq #[u, v] }).push { cls := .type "tuple_iterator", data := .fields #[.ref s.heap.objs.size, .int 0 0] }).objs.size := hm
      rw [e1] at hm
      rw [hm] at this
      exact absurd this (Nat.not_lt.mpr (Nat.le_add_right _ _))
end
/-- min of two tuples of ints -/
def rMinT (K : PySem.W.Frag) : List V → Hp → VK → Prop := fun vs H Q => ∃ a b ns ms, vs = [.ref a, .ref b] ∧ SqT K H a (ns.map V.int) ∧ SqT K H b (ms.map V.int) ∧ Q (if HT.lexLt ms ns then .ref b else .ref a) H
theorem ints_vals : ∀ {ns : List Int} {us : List Value}, Vals (ns.map V.int) us → IntsAre us ns
  | [], _, .nil => .nil
  | n :: ns, _, .cons ⟨t, e⟩ r => by
    subst e
    exact .cons n t (ints_vals r)
theorem c_minT {X : Cx} (hc : X.calm = true) (hu : X.A.units + 64 < cLine) : CallR X (.builtin "min") (rMinT X.K) := by
  intro pins s σ H xs us Q I rr ⟨a, b, ns, ms, ex, h1, h2, q⟩
  subst ex
  obtain ⟨u, v, rfl, ru, rv⟩ := vals2 rr
  cases ru
  cases rv
  obtain ⟨its, r1, p1, _⟩ := I.tuple h1
  obtain ⟨its2, r2, p2, _⟩ := I.tuple h2
  have i1 : IntsAre its.toArray.toList ns := ints_vals (by simpa using r1)
  have i2 : IntsAre its2.toArray.toList ms := ints_vals (by simpa using r2)
  refine callMin (I.ok.hd hc) (b := HT.lexLt ms ns) (fun s' Q' E' ho hq => ?_) fun h' tk ho => ?_
  · have t1 : IsTup s'.heap a its.toArray := by obtain ⟨o, e, c, n, d⟩ := p1; exact ⟨o, ho _ _ e, c, n, d⟩
    have t2 : IsTup s'.heap b its2.toArray := by obtain ⟨o, e, c, n, d⟩ := p2; exact ⟨o, ho _ _ e, c, n, d⟩
    exact (HT.lt_tupInts t2 t1 i2 i1 (by show X.A.units + 1 < cLine; omega) hq : wpAny (model X.prog X.w) X.A.in1 (compareOp .Lt (.ref b) (.ref a)) Q' E' s')
  · refine ⟨_, H, I.kept ho, ?_, q⟩
    cases HT.lexLt ms ns <;> rfl
end Ev

set_option Elab.async false
set_option linter.all false
set_option maxRecDepth 100000
set_option maxHeartbeats 1000000
namespace Ev
open PySem L2
open PyProof.Rows hiding St
section
variable {X : Cx} {sc : List Int} {E : XW} {a b c : Expr} {rest : List Expr} {ga gb gc : En → Sto → R U} {pos : Pos}
/-! ### built-in functions -/
inductive TPs (K : PySem.W.Frag) (ρ : Ad) (H : Hp) : List V → List PyData → Prop
  | nil : TPs K ρ H [] []
  | cons {v : V} {vs : List V} {d : PyData} {ds : List PyData} : Tp K ρ H v d → TPs K ρ H vs ds → TPs K ρ H (v :: vs) (d :: ds)
theorem mapM_rd {ρ : Ad} {H : Hp} {S : Sto} (hS : StR X.K ρ H S) : ∀ {us : List U} {xs : List PyData} {vs : List V}, us.mapM (rd sc S) = some xs → RUs X.K sc ρ H us vs → TPs X.K ρ H vs xs
  | [], xs, _, e, .nil => by cases e; exact .nil
  | u :: us, xs, _, e, .cons r t => by
    rw [List.mapM_cons] at e
    cases h : rd sc S u with
    | none => rw [h] at e; cases e
    | some x =>
      rw [h] at e
      cases h2 : us.mapM (rd sc S) with
      | none => rw [h2] at e; cases e
      | some ys =>
        rw [h2] at e
        cases e
        exact .cons (tp_of hS r h) (mapM_rd hS h2 t)
def rBlt (K : PySem.W.Frag) (b : Blt) : List V → Hp → VK → Prop := fun vs H Q => ∃ ρ S ds r, StR K ρ H S ∧ TPs K ρ H vs ds ∧ blt b ds = some r ∧ ∀ v H', Kp ρ H H' → StR K ρ H' S → DR K ρ H' v r → Q v H'
theorem tps1 {ρ : Ad} {H : Hp} {vs : List V} {d : PyData} (h : TPs X.K ρ H vs [d]) : ∃ v, vs = [v] ∧ Tp X.K ρ H v d := by
  cases h with
  | cons a b => cases b; exact ⟨_, rfl, a⟩
theorem tps2 {ρ : Ad} {H : Hp} {vs : List V} {d e : PyData} (h : TPs X.K ρ H vs [d, e]) : ∃ v w, vs = [v, w] ∧ Tp X.K ρ H v d ∧ Tp X.K ρ H w e := by
  cases h with
  | cons a b =>
    cases b with
    | cons c d => cases d; exact ⟨_, _, rfl, a, c⟩
theorem ints_of {ρ : Ad} {H : Hp} : ∀ {ds : List PyData} {vs : List V} {ns : List Int}, DRs X.K ρ H vs ds → intsOf ds = some ns → vs = ns.map V.int
  | [], _, _, h, e => by cases h; cases e; rfl
  | d :: ds, _, ns, h, e => by
    cases h with
    | cons a b =>
      cases d with
      | int i =>
        cases a
        have e : (intsOf ds).map (i :: ·) = some ns := e
        cases q : intsOf ds with
        | none => rw [q] at e; cases e
        | some ms => rw [q] at e; cases e; rw [ints_of b q]; rfl
      | _ => cases e
theorem bits_of {ρ : Ad} {H : Hp} : ∀ {ds : List PyData} {vs : List V} {ns : List Bool}, DRs X.K ρ H vs ds → bitsOf ds = some ns → vs = ns.map V.bl
  | [], _, _, h, e => by cases h; cases e; rfl
  | d :: ds, _, ns, h, e => by
    cases h with
    | cons a b =>
      cases d with
      | bool i =>
        cases a
        have e : (bitsOf ds).map (i :: ·) = some ns := e
        cases q : bitsOf ds with
        | none => rw [q] at e; cases e
        | some ms => rw [q] at e; cases e; rw [bits_of b q]; rfl
      | _ => cases e
/-- a built-in function's name, as it stands in the world -/
def Blt.isTy : Blt → Bool
  | .tuple | .list => true
  | _ => false
theorem c_len : CallR X (.builtin "len") (rBlt X.K .len) := by
  intro pins s σ H xs us Q I rr ⟨ρ, S, ds, r, hS, t, e, k⟩
  have e : bLen ds = some r := e
  unfold bLen at e
  split at e
  · cases e
    obtain ⟨v, rfl, tv⟩ := tps1 t
    cases tv with
    | lst h q => exact call_len pins s σ H _ us Q I rr ⟨_, _, rfl, .inl ⟨_, h, rfl⟩, by rw [q.length]; exact k _ _ Kp.refl hS (DR.int _)⟩
  · cases e
    obtain ⟨v, rfl, tv⟩ := tps1 t
    cases tv with
    | tup h _ q => exact call_len pins s σ H _ us Q I rr ⟨_, _, rfl, .inr ⟨_, h, rfl⟩, by rw [q.length]; exact k _ _ Kp.refl hS (DR.int _)⟩
  · split at e
    · rename_i hl
      cases e
      obtain ⟨v, rfl, tv⟩ := tps1 t
      cases tv
      exact call_len pins s σ H _ us Q I rr ⟨_, _, rfl, ⟨hl, rfl⟩, k _ _ Kp.refl hS (DR.int _)⟩
    · cases e
  · cases e
theorem c_min (hc : X.calm = true) (hu : X.A.units + 64 < cLine) : CallR X (.builtin "min") (rBlt X.K .min2) := by
  intro pins s σ H xs us Q I rr ⟨ρ, S, ds, r, hS, t, e, k⟩
  have e : bMin ds = some r := e
  unfold bMin at e
  split at e
  · cases e
    obtain ⟨v, w', rfl, tv, tw⟩ := tps2 t
    cases tv
    cases tw
    exact call_min2 hc pins s σ H _ us Q I rr ⟨_, _, rfl, k _ _ Kp.refl hS (DR.int _)⟩
  · split at e
    · rename_i ns ms hn hm
      cases e
      obtain ⟨v, w', rfl, tv, tw⟩ := tps2 t
      cases tv with
      | tup h1 r1 q1 =>
        cases tw with
        | tup h2 r2 q2 =>
          refine c_minT hc hu pins s σ H _ us Q I rr ⟨_, _, ns, ms, rfl, by rw [← ints_of q1 hn]; exact h1, by rw [← ints_of q2 hm]; exact h2, ?_⟩
          refine k _ _ Kp.refl hS ?_
          cases HT.lexLt ms ns
          · exact r1
          · exact r2
    · cases e
  · cases e
theorem c_max (hc : X.calm = true) : CallR X (.builtin "max") (rBlt X.K .max2) := by
  intro pins s σ H xs us Q I rr ⟨ρ, S, ds, r, hS, t, e, k⟩
  have e : bMax ds = some r := e
  unfold bMax at e
  split at e
  · cases e
    obtain ⟨v, w', rfl, tv, tw⟩ := tps2 t
    cases tv
    cases tw
    exact call_max2 hc pins s σ H _ us Q I rr ⟨_, _, rfl, k _ _ Kp.refl hS (DR.int _)⟩
  · cases e
theorem c_abs : CallR X (.builtin "abs") (rBlt X.K .abs) := by
  intro pins s σ H xs us Q I rr ⟨ρ, S, ds, r, hS, t, e, k⟩
  have e : bAbs ds = some r := e
  unfold bAbs at e
  split at e
  · cases e
    obtain ⟨v, rfl, tv⟩ := tps1 t
    cases tv
    exact call_abs pins s σ H _ us Q I rr ⟨_, rfl, k _ _ Kp.refl hS (DR.int _)⟩
  · cases e
theorem c_dvm : CallR X (.builtin "divmod") (rBlt X.K .divmod) := by
  intro pins s σ H xs us Q I rr ⟨ρ, S, ds, r, hS, t, e, k⟩
  have e : bDvm ds = some r := e
  unfold bDvm at e
  split at e
  · split at e
    · rename_i hl
      unfold divOk at hl
      simp only [Bool.and_eq_true, decide_eq_true_eq] at hl
      cases e
      obtain ⟨v, w', rfl, tv, tw⟩ := tps2 t
      cases tv
      cases tw
      exact call_divmod pins s σ H _ us Q I rr ⟨_, _, rfl, hl, fun p hp => fin_tup (sc := []) hS (.cons (.int _) (.cons (.int _) .nil)) hp k⟩
    · cases e
  · cases e
theorem c_sum (hc : X.calm = true) : CallR X (.builtin "sum") (rBlt X.K .sum) := by
  intro pins s σ H xs us Q I rr ⟨ρ, S, ds, r, hS, t, e, k⟩
  have e : bSum ds = some r := e
  unfold bSum at e
  split at e
  · rename_i ys _
    cases q : intsOf ys with
    | none => rw [q] at e; cases e
    | some ns =>
      rw [q] at e
      cases e
      obtain ⟨v, rfl, tv⟩ := tps1 t
      cases tv with
      | lst h q' => exact cr_sum hc pins s σ H _ us Q I rr ⟨_, ns, rfl, by rw [← ints_of q' q]; exact h, k _ _ Kp.refl hS (DR.int _)⟩
  · cases e
theorem c_all (hc : X.calm = true) : CallR X (.builtin "all") (rBlt X.K .all) := by
  intro pins s σ H xs us Q I rr ⟨ρ, S, ds, r, hS, t, e, k⟩
  have e : bAll ds = some r := e
  unfold bAll at e
  split at e
  · rename_i ys _
    cases q : bitsOf ys with
    | none => rw [q] at e; cases e
    | some ns =>
      rw [q] at e
      cases e
      obtain ⟨v, rfl, tv⟩ := tps1 t
      cases tv with
      | lst h q' => exact cr_all hc pins s σ H _ us Q I rr ⟨_, ns, rfl, by rw [← bits_of q' q]; exact h, k _ _ Kp.refl hS (DR.bl _)⟩
  · cases e
theorem c_any (hc : X.calm = true) : CallR X (.builtin "any") (rBlt X.K .any) := by
  intro pins s σ H xs us Q I rr ⟨ρ, S, ds, r, hS, t, e, k⟩
  have e : bAny ds = some r := e
  unfold bAny at e
  split at e
  · rename_i ys _
    cases q : bitsOf ys with
    | none => rw [q] at e; cases e
    | some ns =>
      rw [q] at e
      cases e
      obtain ⟨v, rfl, tv⟩ := tps1 t
      cases tv with
      | lst h q' => exact cr_any hc pins s σ H _ us Q I rr ⟨_, ns, rfl, by rw [← bits_of q' q]; exact h, k _ _ Kp.refl hS (DR.bl _)⟩
  · cases e
theorem c_lst : CallR X (.type "list") (rBlt X.K .list) := by
  intro pins s σ H xs us Q I rr ⟨ρ, S, ds, r, hS, t, e, k⟩
  have e : bLst ds = some r := e
  unfold bLst at e
  split at e
  · cases e
    obtain ⟨v, rfl, tv⟩ := tps1 t
    cases tv with
    | lst h q => exact call_list_of pins s σ H _ us Q I rr ⟨_, _, rfl, .inl h, fun p hp => fin_lst (sc := []) hS q hp k⟩
  · cases e
    obtain ⟨v, rfl, tv⟩ := tps1 t
    cases tv with
    | tup h _ q => exact call_list_of pins s σ H _ us Q I rr ⟨_, _, rfl, .inr h, fun p hp => fin_lst (sc := []) hS q hp k⟩
  · cases e
theorem c_tup : CallR X (.type "tuple") (rBlt X.K .tuple) := by
  intro pins s σ H xs us Q I rr ⟨ρ, S, ds, r, hS, t, e, k⟩
  have e : bTup ds = some r := e
  unfold bTup at e
  split at e
  · cases e
    obtain ⟨v, rfl, tv⟩ := tps1 t
    cases tv with
    | lst h q => exact call_tuple_of pins s σ H _ us Q I rr ⟨_, _, rfl, .inl ⟨h, fun p hp => fin_tup (sc := []) hS q hp k⟩⟩
  · cases e
    obtain ⟨v, rfl, tv⟩ := tps1 t
    cases tv with
    | tup h h2 q => exact call_tuple_of pins s σ H _ us Q I rr ⟨_, _, rfl, .inr ⟨h, k _ _ Kp.refl hS h2⟩⟩
  · cases e
def Blt.val : Blt → Value
  | .tuple => .type "tuple"
  | .list => .type "list"
  | b => .builtin b.name
theorem c_blt (hc : X.calm = true) (hu : X.A.units + 64 < cLine) (b : Blt) : CallR X b.val (rBlt X.K b) := by
  cases b with
  | len => exact c_len
  | min2 => exact c_min hc hu
  | max2 => exact c_max hc
  | sum => exact c_sum hc
  | all => exact c_all hc
  | any => exact c_any hc
  | tuple => exact c_tup
  | list => exact c_lst
  | abs => exact c_abs
  | divmod => exact c_dvm
theorem boot_blt (b : Blt) : bootBuiltins b.name = some b.val := by cases b <;> decide +kernel
theorem name_blt (b : Blt) : (Str.ofString b.name ≠ "__name__") ∧ ((Str.ofString b.name == ("__debug__" : Str)) = false) := by cases b <;> exact ⟨by decide +kernel, by decide +kernel⟩
def gBlt (sc : List Int) (b : Blt) (gs : En → Sto → R (List U)) : En → Sto → R U := fun σ S => (gs σ S).bd fun us S1 => match us.mapM (rd sc S1) with
      | some xs => (R.of S1 (Ev.blt b xs)).bd fun r S2 => .ok (.d r) S2
      | none => .bad
theorem s_blt {bb : Blt} {gs : En → Sto → R (List U)} {p : Pos} (hc : X.calm = true) (hu : X.A.units + 64 < cLine) (hg : Gl X bb.name) (hm : X.mg bb.name = none) (h : PA X (a :: rest) (tA X.K sc E gs)) (hn : NoStar X (a :: rest)) :
    PE X (.Call (.Name bb.name p) (a :: rest) [] pos) (tE X.K sc E (gBlt sc bb gs)) := by
  have fin : ∀ σ H Q, tE X.K sc E (gBlt sc bb gs) σ H Q → tCB (rBlt X.K bb) (tA X.K sc E gs) σ H Q := fun σ H Q ⟨ρ, σu, S, hS, hE, w⟩ => by
    refine W.bd hS hE w fun us S1 vs H1 k1 s1 n1 r1 w => ?_
    split at w
    · rename_i xs hx
      obtain ⟨r, e5, w⟩ := of_bd w
      exact ⟨ρ, _, xs, r, s1, mapM_rd s1 hx r1, e5, fun v H' k2 => w v H' (k1.trans k2)⟩
    · exact w.elim
  have h1 := hn a List.mem_cons_self rest
  have h2 : (backTo pos (starEach rest X.env)).any (·.1) = false := NoStar.any fun z hz => hn z (List.mem_cons_of_mem _ hz)
  have cb := c_blt (X := X) hc hu bb
  have bt := boot_blt bb
  have nm := name_blt bb
  by_cases hb : bb = .tuple ∨ bb = .list
  · rcases hb with rfl | rfl
    · exact PE.imp (pe_callTy cb hg hm bt h nm.1 nm.2 h1 h2) fin
    · exact PE.imp (pe_callTy cb hg hm bt h nm.1 nm.2 h1 h2) fin
  · have ev : bb.val = .builtin bb.name := by
      cases bb <;> first | rfl | exact absurd (.inl rfl) hb | exact absurd (.inr rfl) hb
    rw [ev] at cb bt
    exact PE.imp (pe_callB cb hg hm bt h nm.1 nm.2 h1 h2) fin
/-! ### isinstance -/
theorem kit_int (K : PySem.W.Frag) (t : Ty) : PySem.W.kitOne K (.type "int") (.type t.name) = isTy t (.int 0) := by cases t <;> rfl
theorem kit_bool (K : PySem.W.Frag) (t : Ty) : PySem.W.kitOne K (.type "bool") (.type t.name) = isTy t (.bool true) := by cases t <;> rfl
theorem kit_none (K : PySem.W.Frag) (t : Ty) : PySem.W.kitOne K (.type "NoneType") (.type t.name) = isTy t .none := by cases t <;> rfl
theorem kit_str (K : PySem.W.Frag) (t : Ty) : PySem.W.kitOne K (.type "str") (.type t.name) = isTy t (.str ⟨#[]⟩) := by cases t <;> rfl
theorem kit_list (K : PySem.W.Frag) (t : Ty) : PySem.W.kitOne K (.type "list") (.type t.name) = isTy t (.list []) := by cases t <;> rfl
theorem kit_tuple (K : PySem.W.Frag) (t : Ty) : PySem.W.kitOne K (.type "tuple") (.type t.name) = isTy t (.tuple []) := by cases t <;> rfl
def rIsi (K : PySem.W.Frag) (t : Ty) : List V → Hp → VK → Prop := fun vs H Q => ∃ ρ v d b, vs = [v, .ty t.name] ∧ Tp K ρ H v d ∧ isTy t d = some b ∧ Q (.bl b) H
theorem c_isi (t : Ty) : CallR X (.builtin "isinstance") (rIsi X.K t) := by
  intro pins s σ H xs us Q I rr ⟨ρ, v, d, b, ex, tp, e, k⟩
  subst ex
  obtain ⟨u, w', rfl, ru, rw'⟩ := vals2 rr
  cases (show w' = Value.type t.name from rw')
  have fin : ∀ tk, EP X pins σ Q (.bool b) { s with toks := tk } := fun tk => ⟨.bl b, H, I.tok _, rfl, k⟩
  cases tp with
  | non => cases (show u = Value.none from ru); exact PySem.W.kia_one PySem.W.kitx_none I.kIn True.intro ((kit_none X.K t).trans e) (fun z => nomatch z) fin
  | bl y => cases (show u = Value.bool y from ru); exact PySem.W.kia_one PySem.W.kitx_bool I.kIn True.intro ((kit_bool X.K t).trans (by cases t <;> exact e)) (fun z => nomatch z) fin
  | int i => obtain ⟨tt, q⟩ := (show ∃ tt, u = Value.int i tt from ru); cases q; exact PySem.W.kia_one PySem.W.kitx_int I.kIn True.intro ((kit_int X.K t).trans (by cases t <;> exact e)) (fun z => nomatch z) fin
  | str y => obtain ⟨tt, q⟩ := (show ∃ tt, u = Value.str y tt from ru); cases q; exact PySem.W.kia_one PySem.W.kitx_str I.kIn True.intro ((kit_str X.K t).trans (by cases t <;> exact e)) (fun z => nomatch z) fin
  | @lst a ys ds h q =>
    cases (show u = Value.ref a from ru)
    obtain ⟨its, _, ⟨o, n, e1, c1, _⟩, _⟩ := I.list h
    exact PySem.W.kia_one PySem.W.kitx_list I.kIn ⟨o, e1, c1⟩ ((kit_list X.K t).trans (by cases t <;> exact e)) (fun z => nomatch z) fin
  | @tup a ys ds h _ q =>
    cases (show u = Value.ref a from ru)
    obtain ⟨its, _, ⟨o, e1, c1, _⟩, _⟩ := I.tuple h
    exact PySem.W.kia_one PySem.W.kitx_tuple I.kIn ⟨o, e1, c1⟩ ((kit_tuple X.K t).trans (by cases t <;> exact e)) (fun z => nomatch z) fin
theorem boot_ty (t : Ty) : bootBuiltins t.name = some (.type t.name) := by cases t <;> decide +kernel
theorem name_ty (t : Ty) : (Str.ofString t.name ≠ "__name__") ∧ ((Str.ofString t.name == ("__debug__" : Str)) = false) := by cases t <;> exact ⟨by decide +kernel, by decide +kernel⟩
def gIsi (sc : List Int) (t : Ty) (ga : En → Sto → R U) : En → Sto → R U := fun σ S => (ga σ S).bd fun x S1 => match rd sc S1 x with
      | some p => (R.of S1 (isTy t p)).bd fun r S2 => .ok (.d (.bool r)) S2
      | none => .bad
theorem s_isi {t : Ty} {p p2 : Pos} (hg : Gl X "isinstance") (hm : X.mg "isinstance" = none) (hg2 : Gl X t.name) (hm2 : X.mg t.name = none) (ha : PE X a (tE X.K sc E ga)) (hn : NoStar X [a]) :
    PE X (.Call (.Name "isinstance" p) [a, .Name t.name p2] [] pos) (tE X.K sc E (gIsi sc t ga)) := by
  have h1 := hn a List.mem_cons_self [.Name t.name p2]
  have h2 := hn a List.mem_cons_self []
  have nm := name_ty t
  refine PE.imp (pe_callB (c_isi t) hg hm PyProof.Rows.boot_isinstance (pa_cons ha (pa_cons (pe_bltn (v := .ty t.name) hg2 hm2 (boot_ty t) rfl nm.1 nm.2) pa_nil) h1) (by decide +kernel) (by decide +kernel) h1 rfl) fun σ H Q ⟨ρ, σu, S, hS, hE, w⟩ => ?_
  refine W.bd hS hE w fun x S1 v H1 k1 s1 n1 r1 w => ?_
  split at w
  · rename_i d hd
    obtain ⟨r, e5, w⟩ := of_bd w
    exact ⟨ρ, v, d, r, rfl, tp_of s1 r1 hd, e5, w _ _ k1 s1 (DR.bl r)⟩
  · exact w.elim
/-! ### targets -/
/-- the names of a target -/
def NamesOk (X : Cx) (is : List Nat) (ts : List Expr) : Prop := Paired (fun (i : Nat) (t : Expr) => ∃ x p, t = .Name x p ∧ X.N[i]? = some x ∧ Loc X.env.scope x ∧ (X.fn x = true ∨ X.env.scope.names.lookup x = some .local)) is ts
def gPut (K : PySem.W.Frag) (sc : List Int) (g : G) : TG := fun v σ H Q => ∃ ρ σu u σu', EnR K sc ρ H σu σ ∧ RU K sc ρ H u v ∧ g.put u σu = some σu' ∧ ∀ σ', EnR K sc ρ H σu' σ' → (∀ j, ¬ j ∈ g.slots → σ'[j]? = σ[j]?) → Q σ' H
theorem s_gnm {i : Nat} {x : Str} (hN : X.N.Nodup) (hi : X.N[i]? = some x) (hx : Loc X.env.scope x) (hf : X.fn x = true ∨ X.env.scope.names.lookup x = some .local) : PG X (.Name x pos) (gPut X.K sc (.nm i)) :=
  PG.imp (pg_name hN hi hx hf) fun v σ H Q ⟨ρ, σu, u, σu', hE, r, e, q⟩ => by
    cases e
    exact q _ (hE.set i r) fun j hj => List.getElem?_set_ne fun z => hj (List.mem_singleton.mpr z.symm)
/-- several names -/
def gsPut (K : PySem.W.Frag) (sc : List Int) (is : List Nat) : TGs := fun vs σ H Q => ∃ ρ σu ds σu', EnR K sc ρ H σu σ ∧ DRs K ρ H vs ds ∧ setAll is ds σu = some σu' ∧ ∀ σ', EnR K sc ρ H σu' σ' → (∀ j, ¬ j ∈ is → σ'[j]? = σ[j]?) → Q σ' H
theorem PGs.imp {ts : List Expr} {t t' : TGs} (h : PGs X ts t) (k : ∀ v σ H R, t' v σ H R → t v σ H R) : PGs X ts t' := fun pins s σ H v u Q I r w => h pins s σ H v u Q I r (k _ _ _ _ w)
theorem assignEach_name {x : Str} {p : Pos} {ts : List Expr} : (assignEach (.Name x p :: ts) X.env).map (·.2) = assign (.Name x p) X.env :: (assignEach ts X.env).map (·.2) := rfl
theorem s_gs (hN : X.N.Nodup) : ∀ {is : List Nat} {ts : List Expr}, NamesOk X is ts → PGs X ts (gsPut X.K sc is)
  | _, _, .nil => PGs.imp pgs_nil fun v σ H Q ⟨ρ, σu, ds, σu', hE, r, e, q⟩ => by
    cases ds with
    | nil => cases r; cases e; exact ⟨rfl, q _ hE fun _ _ => rfl⟩
    | cons d ds => cases e
  | i :: is, t :: ts, .cons ⟨x, p, et, h1, h2, h3⟩ tl => by
    subst et
    refine PGs.imp (pgs_cons (s_gnm (sc := sc) hN h1 h2 h3) (s_gs hN tl) assignEach_name) fun v σ H Q ⟨ρ, σu, ds, σu', hE, r, e, q⟩ => ?_
    cases ds with
    | nil => cases e
    | cons d ds =>
      cases r with
      | cons r1 r2 =>
        refine ⟨_, _, rfl, ρ, σu, .d d, _, hE, r1, rfl, fun σ' hE' hk => ?_⟩
        refine ⟨ρ, _, ds, σu', hE', r2, e, fun σ2 hE2 hk2 => q σ2 hE2 fun j hj => ?_⟩
        rw [hk2 j fun z => hj (List.mem_cons_of_mem _ z)]
        exact hk j fun z => hj (by rw [List.mem_singleton.mp z]; exact List.mem_cons_self)
theorem names_len {is : List Nat} {ts : List Expr} (h : NamesOk X is ts) : (assignEach ts X.env).length = is.length ∧ (assignEach ts X.env).findIdx? (·.1) = none := by
  induction h with
  | nil => exact ⟨rfl, rfl⟩
  | cons h1 h2 ih =>
    obtain ⟨x, p, rfl, _⟩ := h1
    refine ⟨congrArg (· + 1) ih.1, ?_⟩
    show List.findIdx? _ ((false, _) :: _) = none
    rw [List.findIdx?_cons]
    simp [ih.2]
theorem setAll_len : ∀ {is : List Nat} {ds : List PyData} {σu σu' : En}, setAll is ds σu = some σu' → ds.length = is.length
  | [], [], _, _, _ => rfl
  | [], _ :: _, _, _, e => by cases e
  | _ :: _, [], _, _, e => by cases e
  | i :: is, d :: ds, _, _, e => congrArg (· + 1) (setAll_len (is := is) (ds := ds) e)
theorem s_gtp {is : List Nat} {ts : List Expr} {k : Nat} (hc : X.calm = true) (hN : X.N.Nodup) (h : NamesOk X is ts) : PG X (.Tuple ts k pos) (gPut X.K sc (.tp is)) := by
  obtain ⟨h1, h2⟩ := names_len h
  refine PG.imp (pg_tup hc (s_gs (sc := sc) hN h) h1 h2) fun v σ H Q ⟨ρ, σu, u, σu', hE, r, e, q⟩ => ?_
  cases u with
  | d y =>
    cases y with
    | tuple ds =>
      cases r with
      | tup r1 n1 q1 => exact ⟨_, _, rfl, .inl r1, by rw [q1.length]; exact setAll_len e, ρ, σu, ds, σu', hE, q1, e, q⟩
      | ktup r1 q1 => exact ⟨_, _, rfl, .inr r1, by rw [q1.length]; exact setAll_len e, ρ, σu, ds, σu', hE, q1, e, q⟩
    | _ => cases e
  | _ => cases e
end
end Ev

set_option Elab.async false
set_option linter.all false
set_option maxRecDepth 100000
set_option maxHeartbeats 1000000
namespace Ev
open PySem L2
open PyProof.Rows hiding St
mutual
theorem same_eq : ∀ (x y : PyData), sameP x y = true → x = y
  | .none, y, h => by cases y <;> first | rfl | cases h
  | .bool a, y, h => by
    cases y <;> first | cases h | skip
    have h : (a == _) = true := h
    rw [beq_iff_eq.mp h]
  | .int a, y, h => by
    cases y <;> first | cases h | skip
    have h : (a == _) = true := h
    rw [beq_iff_eq.mp h]
  | .str a, y, h => by
    cases y <;> first | cases h | skip
    have h : decide (a = _) = true := h
    rw [of_decide_eq_true h]
  | .list a, y, h => by
    cases y with
    | list b =>
      have h : sameP.go a b = true := by unfold sameP at h; exact h
      rw [go_eq a b h]
    | _ => cases h
  | .tuple a, y, h => by
    cases y with
    | tuple b =>
      have h : sameP.go a b = true := by unfold sameP at h; exact h
      rw [go_eq a b h]
    | _ => cases h
  | .dict a, y, h => by cases y <;> cases h
theorem go_eq : ∀ (xs ys : List PyData), sameP.go xs ys = true → xs = ys
  | [], ys, h => by
    cases ys with
    | nil => rfl
    | cons y ys => unfold sameP.go at h; cases h
  | x :: xs, ys, h => by
    cases ys with
    | nil => unfold sameP.go at h; cases h
    | cons y ys =>
      unfold sameP.go at h
      rw [Bool.and_eq_true] at h
      rw [same_eq x y h.1, go_eq xs ys h.2]
end
section
variable {X : Cx} {sc : List Int} {E : XW} {a b c tg : Expr} {rest : List Expr} {ga gb gc : En → Sto → R U} {pos : Pos}
/-! ### what is walked -/
structure ItOk (K : PySem.W.Frag) (ρ : Ad) (H : Hp) (J : It) (items : List PyData) (ck : Option Nat) : Prop where
  go : ∀ (ρ' : Ad) (H' : Hp) (S' : Sto) (i : Nat) (x : PyData), Ex ρ H ρ' H' → StR K ρ' H' S' → ckC S' items ck = true → items[i]? = some x →
    J.go i H' ∧ ∀ v H2, J.yld i H' v H2 → Kp ρ' H' H2 ∧ StR K ρ' H2 S' ∧ DR K ρ' H2 v x
  stop : ∀ (ρ' : Ad) (H' : Hp) (S' : Sto) (i : Nat), Ex ρ H ρ' H' → StR K ρ' H' S' → ckC S' items ck = true → items.length ≤ i → J.stop i H'
def RI (K : PySem.W.Frag) (ρ : Ad) (H : Hp) (its : List PyData × Option Nat) (J : It) : Prop := ItOk K ρ H J its.1 its.2
abbrev tI (K : PySem.W.Frag) (sc : List Int) (E : XW) (g : En → Sto → R (List PyData × Option Nat)) : TI := W K sc E (RI K) g
theorem it_sq {ρ : Ad} {H : Hp} {a : Addr} {items : List PyData} {ck : Option Nat} (h : ∀ (ρ' : Ad) (H' : Hp) (S' : Sto), Ex ρ H ρ' H' → StR X.K ρ' H' S' → ckC S' items ck = true → ∃ xs, SqL X.K H' a xs ∧ DRs X.K ρ' H' xs items) : ItOk X.K ρ H (Itl X.K a) items ck where
  go := fun ρ' H' S' i x hx hS hc e => by
    obtain ⟨xs, h1, h2⟩ := h ρ' H' S' hx hS hc
    obtain ⟨v, e1, r⟩ := h2.get e
    refine ⟨⟨xs, v, h1, e1⟩, fun w H2 y => ?_⟩
    obtain ⟨y1, y2⟩ := y
    subst y1
    have := y2 xs h1
    rw [e1] at this
    cases this
    exact ⟨Kp.refl, hS, r⟩
  stop := fun ρ' H' S' i hx hS hc e => by
    obtain ⟨xs, h1, h2⟩ := h ρ' H' S' hx hS hc
    exact ⟨xs, h1, by rw [h2.length]; exact e⟩
theorem it_tu {ρ : Ad} {H : Hp} {a : Addr} {items : List PyData} {ck : Option Nat} (h : ∀ (ρ' : Ad) (H' : Hp) (S' : Sto), Ex ρ H ρ' H' → StR X.K ρ' H' S' → ckC S' items ck = true → ∃ xs, SqT X.K H' a xs ∧ DRs X.K ρ' H' xs items) : ItOk X.K ρ H (Itt X.K a) items ck where
  go := fun ρ' H' S' i x hx hS hc e => by
    obtain ⟨xs, h1, h2⟩ := h ρ' H' S' hx hS hc
    obtain ⟨v, e1, r⟩ := h2.get e
    refine ⟨⟨xs, v, h1, e1⟩, fun w H2 y => ?_⟩
    obtain ⟨y1, y2⟩ := y
    subst y1
    have := y2 xs h1
    rw [e1] at this
    cases this
    exact ⟨Kp.refl, hS, r⟩
  stop := fun ρ' H' S' i hx hS hc e => by
    obtain ⟨xs, h1, h2⟩ := h ρ' H' S' hx hS hc
    exact ⟨xs, h1, by rw [h2.length]; exact e⟩
theorem rngP_len : ∀ (n : Nat) (lo : Int), (rngP lo n).length = n
  | 0, _ => rfl
  | n + 1, lo => by rw [rngP, List.length_cons, rngP_len n]
theorem rngP_get : ∀ (n : Nat) (lo : Int) (i : Nat) (x : PyData), (rngP lo n)[i]? = some x → x = .int (lo + i) ∧ i < n
  | 0, _, _, _, h => by cases h
  | n + 1, lo, 0, x, h => by
    rw [rngP] at h
    cases h
    exact ⟨by simp, Nat.succ_pos _⟩
  | n + 1, lo, i + 1, x, h => by
    rw [rngP] at h
    obtain ⟨h1, h2⟩ := rngP_get n (lo + 1) i x h
    refine ⟨by rw [h1]; congr 1; omega, Nat.succ_lt_succ h2⟩
theorem it_rng {ρ : Ad} {H : Hp} {lo : Int} {n : Nat} : ItOk X.K ρ H (Itr lo n) (rngP lo n) none where
  go := fun ρ' H' S' i x hx hS hc e => by
    obtain ⟨h1, h2⟩ := rngP_get n lo i x e
    subst h1
    refine ⟨h2, fun w H2 y => ?_⟩
    obtain ⟨y1, y2⟩ := y
    subst y1 y2
    exact ⟨Kp.refl, hS, .int _⟩
  stop := fun ρ' H' S' i hx hS hc e => by
    rw [rngP_len] at e
    exact e
/-- a list or a tuple -/
def iSeq (K : PySem.W.Frag) (tl : TE) : TI := fun σ H R => tl σ H fun x H1 => ∃ a, x = .ref a ∧ (((∃ xs, SqL K H1 a xs) ∧ R (Itl K a) H1) ∨ ((∃ xs, SqT K H1 a xs) ∧ R (Itt K a) H1))
theorem pi_seq {l : Expr} {tl : TE} (hl : PE X l tl) : PI X tg l (iSeq X.K tl) := by
  intro pins s σ H R I h
  refine thn (hl pins s σ H _ I h) fun v s1 ⟨x, H1, I1, r1, q1⟩ => ?_
  obtain ⟨a, e, ⟨⟨xs, hq⟩, q⟩ | ⟨⟨xs, hq⟩, q⟩⟩ := q1
  · subst e
    cases r1
    obtain ⟨its, rv, p, hz⟩ := I1.list hq
    refine wpAny_pyIter_list p.isList ?_
    refine ⟨s1.heap.objs.size, [s1.heap.objs.size], _, _, H1, rfl, I1.kept (t' := s1.toks) fun b o e => Heap.get?_push_of_some _ e, turn_list a _, ⟨_, Heap.get?_push_size _ rfl, rfl, rfl⟩, fun b hb => ?_, q⟩
    have e : b = s1.heap.objs.size := by simpa using hb
    subst e
    exact I1.fpOk (Nat.le_refl _) (I1.hok.fresh (Nat.le_refl _))
  · subst e
    cases r1
    obtain ⟨its, rv, p, hz⟩ := I1.tuple hq
    refine wpAny_pyIter_tuple (show s1.heap.IsTuple a its.toArray from p) ?_
    refine ⟨s1.heap.objs.size, [s1.heap.objs.size], _, _, H1, rfl, I1.kept (t' := s1.toks) fun b o e => Heap.get?_push_of_some _ e, turn_tuple a _, ⟨_, Heap.get?_push_size _ rfl, rfl, rfl⟩, fun b hb => ?_, q⟩
    have e : b = s1.heap.objs.size := by simpa using hb
    subst e
    exact I1.fpOk (Nat.le_refl _) (I1.hok.fresh (Nat.le_refl _))
def gSeq (sc : List Int) (ga : En → Sto → R U) : En → Sto → R (List PyData × Option Nat) := fun σ S => (ga σ S).bd (itemsOf sc)
theorem s_seq (ha : PE X a (tE X.K sc E ga)) : PI X tg a (tI X.K sc E (gSeq sc ga)) :=
  PI.imp (pi_seq ha) fun σ H R ⟨ρ, σu, S, hS, hE, w⟩ => by
    refine W.bd hS hE w fun u S1 v H1 k1 s1 n1 r1 q => ?_
    unfold itemsOf at q
    split at q
    · cases r1 with
      | lst r n q' => exact ⟨_, rfl, .inl ⟨⟨_, .inl r⟩, q _ _ k1 s1 (it_sq fun ρ' H' S2 hx hS2 _ => ⟨_, .inl (Rd.kp hx.kp n r), q'.ext hx⟩)⟩⟩
    · cases r1 with
      | tup r n q' => exact ⟨_, rfl, .inr ⟨⟨_, .inl r⟩, q _ _ k1 s1 (it_tu fun ρ' H' S2 hx hS2 _ => ⟨_, .inl (Rd.kp hx.kp n r), q'.ext hx⟩)⟩⟩
      | ktup r q' => exact ⟨_, rfl, .inr ⟨⟨_, .inr r⟩, q _ _ k1 s1 (it_tu fun ρ' H' S2 hx hS2 _ => ⟨_, .inr r, q'.ext hx⟩)⟩⟩
    · rename_i n
      obtain ⟨z, e3, q⟩ := of_wp q
      cases hn : S1[n]? with
      | none => rw [hn] at e3; cases e3
      | some xs =>
        rw [hn] at e3
        cases e3
        obtain ⟨b, eb, rfl⟩ := r1
        have look : ∀ (ρ' : Ad) (H' : Hp) (S2 : Sto), Ex ρ H1 ρ' H' → StR X.K ρ' H' S2 → ckC S2 xs (some n) = true → ∃ ys, SqL X.K H' b ys ∧ DRs X.K ρ' H' ys xs := fun ρ' H' S2 hx hS2 hc => by
          unfold ckC at hc
          dsimp only at hc
          split at hc
          · rename_i ys hy
            have := go_eq _ _ hc
            subst this
            obtain ⟨b', vs, eb', hb', qb⟩ := hS2.cs n _ hy
            have r2 : RU X.K sc ρ' H' (.c n) (.ref b) := RU.ext (K := X.K) (sc := sc) hx ⟨b, eb, rfl⟩
            obtain ⟨b2, e5, e6⟩ := r2
            cases e6
            rw [e5] at eb'
            cases eb'
            exact ⟨vs, .inl (.inl hb'), qb⟩
          · cases hc
        obtain ⟨b', vs, eb', hb', qb⟩ := s1.cs n _ hn
        rw [eb] at eb'
        cases eb'
        exact ⟨_, rfl, .inl ⟨⟨_, .inl (.inl hb')⟩, q _ _ k1 s1 (it_sq look)⟩⟩
    · obtain ⟨b, rfl, ⟨n, r⟩ | r⟩ := r1
      · exact ⟨_, rfl, .inl ⟨⟨_, .inl r⟩, q _ _ k1 s1 (it_sq fun ρ' H' S2 hx hS2 _ => ⟨_, .inl (Rd.kp hx.kp n r), DRs.ints _⟩)⟩⟩
      · exact ⟨_, rfl, .inl ⟨⟨_, r H1⟩, q _ _ k1 s1 (it_sq fun ρ' H' S2 hx hS2 _ => ⟨_, r H', DRs.ints _⟩)⟩⟩
    · exact q.elim
theorem sm62 {i : Int} (h : small62 i = true) : -(2 ^ 62) ≤ i ∧ i < 2 ^ 62 := by
  unfold small62 at h
  rw [Bool.and_eq_true] at h
  exact ⟨of_decide_eq_true h.1, of_decide_eq_true h.2⟩
def gRng1 (ga : En → Sto → R U) : En → Sto → R (List PyData × Option Nat) := fun σ S => (ga σ S).bd fun x S1 => match x with
      | .d (.int j) => if small62 j then .ok (rngP 0 j.toNat, none) S1 else .bad
      | _ => .bad
def gRng2 (ga gb : En → Sto → R U) : En → Sto → R (List PyData × Option Nat) := fun σ S => (ga σ S).bd fun x S1 => (gb σ S1).bd fun y S2 => match x, y with
      | .d (.int i), .d (.int j) => if small62 i && small62 j then .ok (rngP i (j - i).toNat, none) S2 else .bad
      | _, _ => .bad
theorem s_rng1 {p : Pos} (hg : Gl X "range") (hm : X.mg "range" = none) (ha : PE X a (tE X.K sc E ga)) (hn : NoStar X [a]) : PI X tg (.Call (.Name "range" p) [a] [] pos) (tI X.K sc E (gRng1 ga)) :=
  PI.imp (pi_range1 hg hm (pa_cons ha pa_nil (hn a List.mem_cons_self [])) (hn a List.mem_cons_self [])) fun σ H R ⟨ρ, σu, S, hS, hE, w⟩ => by
    refine W.bd hS hE w fun u S1 v H1 k1 s1 n1 r1 q => ?_
    split at q
    · split at q
      · rename_i h
        cases r1
        exact ⟨_, rfl, (sm62 h).1, (sm62 h).2, q _ _ k1 s1 it_rng⟩
      · exact q.elim
    · exact q.elim
theorem s_rng2 {p : Pos} (hg : Gl X "range") (hm : X.mg "range" = none) (ha : PE X a (tE X.K sc E ga)) (hb : PE X b (tE X.K sc E gb)) (hn : NoStar X [a, b]) : PI X tg (.Call (.Name "range" p) [a, b] [] pos) (tI X.K sc E (gRng2 ga gb)) := by
  have h1 : starEach [b] X.env = [(false, eval b X.env)] := hn b (List.mem_cons_of_mem _ List.mem_cons_self) []
  have h2 : starEach [a, b] X.env = [(false, eval a X.env), (false, eval b X.env)] := by rw [hn a List.mem_cons_self [b], h1]
  refine PI.imp (pi_range2 hg hm (pa_cons ha (pa_cons hb pa_nil h1) (hn a List.mem_cons_self [b])) h2 h1) fun σ H R ⟨ρ, σu, S, hS, hE, w⟩ => ?_
  refine W.bd hS hE w fun u S1 v H1 k1 s1 n1 r1 w => ?_
  refine W.bd s1 n1 w fun u2 S2 v2 H2 k2 s2 n2 r2 q => ?_
  split at q
  · split at q
    · rename_i h
      rw [Bool.and_eq_true] at h
      cases r1
      cases r2
      exact ⟨_, _, rfl, ⟨(sm62 h.1).1, (sm62 h.1).2, (sm62 h.2).1, (sm62 h.2).2⟩, q _ _ (k1.trans k2) s2 it_rng⟩
    · exact q.elim
  · exact q.elim
/-! ### a list comprehension -/
def gLc (ge : En → Sto → R U) (gt : En → Sto → R Bool) (g : G) (gi : En → Sto → R (List PyData × Option Nat)) : En → Sto → R U := fun σ S => (gi σ S).bd fun its S1 =>
      (lcL ge gt g its.2 its.1 (wipeU σ g.slots) its.1 S1 []).bn fun xs S2 => .ok (.d (.list xs)) S2
theorem wipe_get {σ : L2.St} : ∀ {vs : List Nat} {j : Nat}, ¬ j ∈ vs → (wipe σ vs)[j]? = σ[j]?
  | [], _, _ => rfl
  | v :: vs, j, h => by
    unfold wipe
    rw [List.getElem?_set_ne fun z => h (by rw [z]; exact List.mem_cons_self)]
    exact wipe_get fun z => h (List.mem_cons_of_mem _ z)
theorem wipe_at {σ : L2.St} : ∀ {vs : List Nat} {j : Nat}, j ∈ vs → (wipe σ vs)[j]? = if j < σ.length then some none else none
  | v :: vs, j, h => by
    unfold wipe
    by_cases e : v = j
    · subst e
      rw [List.getElem?_set, if_pos rfl, wipe_length]
    · rw [List.getElem?_set_ne e]
      rcases List.mem_cons.mp h with z | z
      · exact absurd z.symm e
      · exact wipe_at z
theorem wipe_ext {σ τ : L2.St} {vs : List Nat} (hl : σ.length = τ.length) (h : ∀ j, ¬ j ∈ vs → σ[j]? = τ[j]?) : wipe σ vs = wipe τ vs := by
  apply List.ext_getElem?
  intro j
  by_cases hj : j ∈ vs
  · rw [wipe_at hj, wipe_at hj, hl]
  · rw [wipe_get hj, wipe_get hj, h j hj]
theorem wipe_wipe {σ : L2.St} {vs : List Nat} : wipe (wipe σ vs) vs = wipe σ vs := wipe_ext (wipe_length σ vs) fun j hj => wipe_get hj
theorem StR.hide {K : PySem.W.Frag} {ρ : Ad} {H : Hp} {S : Sto} {D : Addr} {o : HO} (hS : StR K ρ H S) (hD : H D = none) : StR K ⟨ρ.c, ρ.x ++ [D]⟩ (upd H D o) S := by
  have nw := hS.new (o := o) hD
  refine ⟨nw.len, nw.nd, fun n xs e => ?_, fun a ha => ?_⟩
  · obtain ⟨a, vs, ea, ha, q⟩ := hS.cs n xs e
    refine ⟨a, vs, ea, by rw [upd_ne (ne_of_none ha hD)]; exact ha, DRs.kp (Kp.new hD) _ _ (DRs.grow (fun b hb => ?_) _ _ q)⟩
    rcases Ad.mem.mp hb with z | z
    · exact .inl (Ad.mem.mpr (.inl z))
    · rcases List.mem_append.mp z with z | z
      · exact .inl (Ad.mem.mpr (.inr z))
      · rw [List.mem_singleton.mp z]; exact .inr hD
  · rcases List.mem_append.mp ha with z | z
    · exact nw.hid a z
    · rw [List.mem_singleton.mp z]
      exact ⟨hS.notinc hD, o, upd_same⟩
theorem ex_hide {ρ : Ad} {H : Hp} {D : Addr} (hD : H D = none) {d : List PyData} {v : List V} {K : PySem.W.Frag} (h : DRs K ρ H v d) (o : HO) : DRs K ⟨ρ.c, ρ.x ++ [D]⟩ (upd H D o) v d :=
  DRs.kp (ρ := ⟨ρ.c, ρ.x ++ [D]⟩) (Kp.new hD) _ _ (DRs.grow (fun b hb => by
    rcases Ad.mem.mp hb with z | z
    · exact .inl (Ad.mem.mpr (.inl z))
    · rcases List.mem_append.mp z with z | z
      · exact .inl (Ad.mem.mpr (.inr z))
      · rw [List.mem_singleton.mp z]; exact .inr hD) _ _ h)
end
mutual
/-- what no value knows is written -/
theorem DR.kx {K : PySem.W.Frag} {ρ : Ad} {H H' : Hp} (k : ∀ a u, ¬ a ∈ ρ.ex → Rd H a u → Rd H' a u) : ∀ (d : PyData) (v : V), DR K ρ H v d → DR K ρ H' v d
  | .none, _, h => by cases h; exact .non
  | .bool b, _, h => by cases h; exact .bl b
  | .int i, _, h => by cases h; exact .int i
  | .str x, _, h => by cases h; exact .str x
  | .list ds, _, h => by
    cases h with
    | lst r n q => exact .lst (k _ _ n r) n (DRs.kx k ds _ q)
  | .tuple ds, _, h => by
    cases h with
    | tup r n q => exact .tup (k _ _ n r) n (DRs.kx k ds _ q)
    | ktup r q => exact .ktup r (DRs.kx k ds _ q)
  | .dict _, _, h => by cases h
theorem DRs.kx {K : PySem.W.Frag} {ρ : Ad} {H H' : Hp} (k : ∀ a u, ¬ a ∈ ρ.ex → Rd H a u → Rd H' a u) : ∀ (ds : List PyData) (vs : List V), DRs K ρ H vs ds → DRs K ρ H' vs ds
  | [], _, h => by cases h; exact .nil
  | d :: ds, _, h => by
    cases h with
    | cons a b => exact .cons (DR.kx k d _ a) (DRs.kx k ds _ b)
end
section
variable {X : Cx} {sc : List Int} {E : XW} {a b c tg : Expr} {rest : List Expr} {ga gb gc : En → Sto → R U} {pos : Pos}
theorem rd_upd {ρ : Ad} {H : Hp} {D : Addr} (hD : D ∈ ρ.ex) (o : HO) : ∀ a u, ¬ a ∈ ρ.ex → Rd H a u → Rd (upd H D o) a u := fun a u n r => by
  have ne : a ≠ D := fun z => n (z ▸ hD)
  rcases r with r | ⟨q, r⟩
  · exact .inl (by rw [upd_ne ne]; exact r)
  · exact .inr ⟨q, by rw [upd_ne ne]; exact r⟩
theorem DR.upd {K : PySem.W.Frag} {ρ : Ad} {H : Hp} {D : Addr} (hD : D ∈ ρ.x) (o : HO) (d : PyData) (v : V) (h : DR K ρ H v d) : DR K ρ (upd H D o) v d := DR.kx (rd_upd (Ad.mem.mpr (.inr hD)) o) d v h
theorem DRs.upd {K : PySem.W.Frag} {ρ : Ad} {H : Hp} {D : Addr} (hD : D ∈ ρ.x) (o : HO) (d : List PyData) (v : List V) (h : DRs K ρ H v d) : DRs K ρ (L2.upd H D o) v d := DRs.kx (rd_upd (Ad.mem.mpr (.inr hD)) o) d v h
theorem RU.upd {K : PySem.W.Frag} {ρ : Ad} {H : Hp} {D : Addr} (hD : D ∈ ρ.x) (o : HO) {u : U} {v : V} (h : RU K sc ρ H u v) : RU K sc ρ (L2.upd H D o) u v := by
  cases u with
  | d x => exact DR.upd hD o x v h
  | c n => exact h
  | s =>
    obtain ⟨a, e, ⟨n, r⟩ | r⟩ := h
    · have ne : a ≠ D := fun z => n (Ad.mem.mpr (.inr (z ▸ hD)))
      refine ⟨a, e, .inl ⟨n, ?_⟩⟩
      rcases r with r | ⟨q, r⟩
      · exact .inl (by rw [upd_ne ne]; exact r)
      · exact .inr ⟨q, by rw [upd_ne ne]; exact r⟩
    · exact ⟨a, e, .inr r⟩
theorem EnR.upd {K : PySem.W.Frag} {ρ : Ad} {H : Hp} {D : Addr} (hD : D ∈ ρ.x) (o : HO) {σu : En} {σ : L2.St} (h : EnR K sc ρ H σu σ) : EnR K sc ρ (L2.upd H D o) σu σ :=
  ⟨h.len, fun i u e => by
    obtain ⟨v, e1, r⟩ := h.vs i u e
    exact ⟨v, e1, r.upd hD o⟩⟩
theorem StR.upd {K : PySem.W.Frag} {ρ : Ad} {H : Hp} {S : Sto} {D : Addr} (hD : D ∈ ρ.x) (o : HO) (hS : StR K ρ H S) : StR K ρ (L2.upd H D o) S := by
  refine ⟨hS.len, hS.nd, fun n xs e => ?_, fun a ha => ?_⟩
  · obtain ⟨a, vs, ea, ha, q⟩ := hS.cs n xs e
    have ne : a ≠ D := fun z => (hS.hid D hD).1 (z ▸ List.mem_of_getElem? ea)
    exact ⟨a, vs, ea, by rw [upd_ne ne]; exact ha, DRs.upd hD o _ _ q⟩
  · obtain ⟨h1, u, h2⟩ := hS.hid a ha
    refine ⟨h1, ?_⟩
    by_cases e : a = D
    · subst e; exact ⟨o, upd_same⟩
    · exact ⟨u, by rw [upd_ne e]; exact h2⟩
theorem StR.unhide {K : PySem.W.Frag} {ρ : Ad} {D : Addr} {H : Hp} {S : Sto} (hS : StR K ⟨ρ.c, ρ.x ++ [D]⟩ H S) : StR K ρ H S := by
  refine ⟨hS.len, hS.nd, fun n xs e => ?_, fun a ha => hS.hid a (List.mem_append_left _ ha)⟩
  obtain ⟨a, vs, ea, ha, q⟩ := hS.cs n xs e
  refine ⟨a, vs, ea, ha, DRs.grow (fun b hb => .inl ?_) _ _ q⟩
  rcases Ad.mem.mp hb with z | z
  · exact Ad.mem.mpr (.inl z)
  · exact Ad.mem.mpr (.inr (List.mem_append_left _ z))
theorem wipeU_len {σ : En} : ∀ {vs : List Nat}, (wipeU σ vs).length = σ.length
  | [] => rfl
  | v :: vs => by unfold wipeU; rw [List.length_set, wipeU_len]
theorem setAll_sz : ∀ {is : List Nat} {ds : List PyData} {σu σu' : En}, setAll is ds σu = some σu' → σu'.length = σu.length
  | [], [], _, _, e => by cases e; rfl
  | [], _ :: _, _, _, e => by cases e
  | _ :: _, [], _, _, e => by cases e
  | i :: is, d :: ds, _, _, e => by rw [setAll_sz (is := is) (ds := ds) e, List.length_set]
theorem put_len {g : G} {u : U} {σu σu' : En} (e : g.put u σu = some σu') : σu'.length = σu.length := by
  cases g with
  | nm i => cases e; rw [List.length_set]
  | tp is =>
    cases u with
    | d y =>
      cases y with
      | tuple ds => exact setAll_sz e
      | _ => cases e
    | _ => cases e
theorem lc_imp {ge : En → Sto → R U} {gt : En → Sto → R Bool} {g : G} {gi : En → Sto → R (List PyData × Option Nat)} : ∀ σ H Q, tE X.K sc E (gLc ge gt g gi) σ H Q → tLc (tI X.K sc E gi) (gPut X.K sc g) (tT X.K sc noX gt) (tE X.K sc noX ge) g.slots σ H Q := fun σ H Q ⟨ρ, σu, S, hS, hE, w⟩ => by
  refine ⟨ρ, σu, S, hS, hE, (wp_bd w).mono (fun its S1 w J H1 k1 s1 it D hD => ?_) fun _ _ x => x⟩
  obtain ⟨items, ck⟩ := its
  obtain ⟨xs, S', e3, q⟩ := bn_wp w
  have e3 : lcL ge gt g ck items (wipeU σu g.slots) items S1 [] = .ok xs S' := e3
  have it : ItOk X.K ρ H1 J items ck := it
  generalize hρ : (⟨ρ.c, ρ.x ++ [D]⟩ : Ad) = ρD
  have cD : ρD.c = ρ.c := by rw [← hρ]
  have xD : D ∈ ρD.x := by rw [← hρ]; exact List.mem_append_right _ (List.mem_singleton.mpr rfl)
  have nD : ¬ D ∈ ρD.c := by rw [cD]; exact s1.notinc hD
  have kk : ∀ {A B : Hp}, Kp ρD A B → Kp ρ A B := fun h a o n e => h a o (by rw [cD]; exact n) e
  have ku : ∀ {A : Hp} (o : HO), Kp ρ H1 A → Kp ρ H1 (upd A D o) := fun o h a u n e => by rw [upd_ne (ne_of_none e hD)]; exact h a u n e
  have exD : ∀ {A : Hp}, Kp ρ H1 A → Ex ρ H1 ρD A := fun k => ⟨⟨[], by rw [cD]; simp, fun p hp => by cases hp⟩, ⟨[D], by rw [← hρ], fun p hp => by rw [List.mem_singleton.mp hp]; exact hD⟩, k⟩
  refine ⟨fun i m H2 => m = items.length - i ∧ i ≤ items.length ∧ ∃ Sx acc accV, StR X.K ρD H2 Sx ∧ EnR X.K sc ρD H2 σu σ ∧ H2 D = some (.lst accV) ∧ DRs X.K ρD H2 accV acc ∧ Kp ρ H1 H2 ∧
      lcL ge gt g ck items (wipeU σu g.slots) (items.drop i) Sx acc = .ok xs S', ⟨items.length, by simp, Nat.zero_le _, S1, [], [], ?_, ?_, upd_same, .nil, ku _ Kp.refl, e3⟩, ?_⟩
  · rw [← hρ]; exact s1.hide hD
  · exact (hE.kp k1).ext (exD (ku _ Kp.refl))
  rintro i m H2 ⟨rfl, hi, Sx, acc, accV, sx, nx, aD, qa, kx, el⟩
  by_cases hlt : i < items.length
  · right
    have ei : items[i]? = some items[i] := List.getElem?_eq_getElem hlt
    rw [List.drop_eq_getElem_cons hlt] at el
    unfold lcL at el
    split at el
    · rename_i hck
      split at el
      · cases el
      · rename_i σ2 hput
        obtain ⟨b, S3, et, el⟩ := bn_inv el
        obtain ⟨jg, jy⟩ := it.go ρD H2 Sx i _ (exD kx) sx hck ei
        refine ⟨jg, fun H' => items.length - (i + 1) = items.length - (i + 1) ∧ i + 1 ≤ items.length ∧ ∃ Sx acc accV, StR X.K ρD H' Sx ∧ EnR X.K sc ρD H' σu σ ∧ H' D = some (.lst accV) ∧ DRs X.K ρD H' accV acc ∧ Kp ρ H1 H' ∧
          lcL ge gt g ck items (wipeU σu g.slots) (items.drop (i + 1)) Sx acc = .ok xs S', fun H' h => ⟨_, by omega, h⟩, fun v H3 y => ?_⟩
        obtain ⟨k3, s3, r3⟩ := jy v H3 y
        refine ⟨ρD, wipeU σu g.slots, .d items[i], σ2, (nx.kp k3).wipe g.slots, r3, hput, fun σ2' hE2 hk => ⟨?_, ?_⟩⟩
        · have hl : σ2'.length = (wipe σ g.slots).length := by rw [hE2.len, put_len hput, wipeU_len, ← hE.len, wipe_length]
          rw [wipe_ext hl hk, wipe_wipe]
        · refine W.ok s3 hE2 et fun bb H4 k4 s4 n4 r4 => ?_
          cases r4
          cases b with
          | false =>
            rw [if_neg Bool.false_ne_true]
            have el : lcL ge gt g ck items (wipeU σu g.slots) (items.drop (i + 1)) S3 acc = .ok xs S' := el
            exact ⟨rfl, hlt, S3, acc, accV, s4, (nx.kp k3).kp k4, k4 D _ nD (k3 D _ nD aD), DRs.kp k4 _ _ (DRs.kp k3 _ _ qa), (kx.trans (kk k3)).trans (kk k4), el⟩
          | true =>
            rw [if_pos rfl]
            have el : (ge σ2 S3).bn (fun u S3 => match asD u with | none => .bad | some y => if acc.length < sizeLine then lcL ge gt g ck items (wipeU σu g.slots) (items.drop (i + 1)) S3 (acc ++ [y]) else .bad) = .ok xs S' := el
            obtain ⟨w', S4, ee, el⟩ := bn_inv el
            refine W.ok s4 n4 ee fun yv H5 k5 s5 n5 r5 => ?_
            split at el
            · cases el
            · rename_i y hy
              split at el
              · rename_i hsz
                have r6 : DR X.K ρD H5 yv y := by
                  cases w' with
                  | d z => cases hy; exact r5
                  | c n => cases hy
                  | s => cases hy
                have qa5 : DRs X.K ρD H5 accV acc := DRs.kp k5 _ _ (DRs.kp k4 _ _ (DRs.kp k3 _ _ qa))
                refine ⟨accV, k5 D _ nD (k4 D _ nD (k3 D _ nD aD)), by rw [qa.length]; exact hsz, rfl, hlt, S4, acc ++ [y], accV ++ [yv], s5.upd xD _, (((nx.kp k3).kp k4).kp k5).upd xD _, upd_same, DRs.upd xD _ _ _ (qa5.app (.cons r6 .nil)), ku _ (((kx.trans (kk k3)).trans (kk k4)).trans (kk k5)), el⟩
              · cases el
    · cases el
  · left
    have ei : i = items.length := by omega
    subst ei
    rw [List.drop_length] at el
    unfold lcL at el
    split at el
    · rename_i hck
      cases el
      refine ⟨it.stop ρD H2 S' _ (exD kx) sx hck (Nat.le_refl _), ?_⟩
      refine q _ _ (k1.trans kx) (by rw [← hρ] at sx; exact sx.unhide) (.lst (.inl aD) (s1.notin hD) (DRs.grow (fun a ha => .inl ?_) _ _ qa))
      rw [← hρ]
      rcases Ad.mem.mp ha with z | z
      · exact Ad.mem.mpr (.inl z)
      · exact Ad.mem.mpr (.inr (List.mem_append_left _ z))
    · cases el
end
end Ev

set_option Elab.async false
set_option linter.all false
set_option maxRecDepth 100000
set_option maxHeartbeats 1000000
/-! zip of two, each a list or a tuple: the kind is a letter -/
namespace Ev
open PySem L2
open PyProof.Rows hiding St
def Kd.it : Kd → String
  | .l => "list_iterator"
  | .t => "tuple_iterator"
def ItAt (k : Kd) (h : Heap) (it a : Addr) (i : Nat) : Prop := match k with
  | .l => h.IsListIter it a i
  | .t => h.IsTupleIter it a i
def SqAt (k : Kd) (h : Heap) (a : Addr) (xs : Array Value) : Prop := match k with
  | .l => h.IsList a xs
  | .t => h.IsTuple a xs
section
variable {prog : Program} {w : World} {A : Around} {E : Value → Shared → Prop} {s : Shared} {k : Kd}
theorem ItAt.move {h h' : Heap} {it a : Addr} {i : Nat} (x : ItAt k h it a i) (f : ∀ o, h.get? it = some o → h'.get? it = some o) : ItAt k h' it a i := by
  cases k with
  | l => exact Heap.IsListIter.at (show h.IsListIter it a i from x) f
  | t => exact Heap.IsTupleIter.at (show h.IsTupleIter it a i from x) f
theorem ItAt.obj {h : Heap} {it a : Addr} {i : Nat} (x : ItAt k h it a i) : ∃ o, h.get? it = some o ∧ ∀ v, o.data ≠ .cell v := by
  cases k with
  | l => obtain ⟨o, e, _, d⟩ := (show h.IsListIter it a i from x); exact ⟨o, e, fun v q => by rw [d] at q; cases q⟩
  | t => obtain ⟨o, e, _, d⟩ := (show h.IsTupleIter it a i from x); exact ⟨o, e, fun v q => by rw [d] at q; cases q⟩
theorem SqAt.move {h h' : Heap} {a : Addr} {xs : Array Value} (x : SqAt k h a xs) (f : ∀ o, h.get? a = some o → h'.get? a = some o) : SqAt k h' a xs := by
  cases k with
  | l => obtain ⟨o, e, c, n, d⟩ := (show h.IsList a xs from x); exact ⟨o, f o e, c, n, d⟩
  | t => obtain ⟨o, e, c, n, d⟩ := (show h.IsTuple a xs from x); exact ⟨o, f o e, c, n, d⟩
theorem SqAt.lt {h : Heap} {a : Addr} {xs : Array Value} (x : SqAt k h a xs) : a < h.objs.size := by
  cases k with
  | l => obtain ⟨o, e, _⟩ := (show h.IsList a xs from x); exact Heap.lt_size e
  | t => obtain ⟨o, e, _⟩ := (show h.IsTuple a xs from x); exact Heap.lt_size e
/-- the next one of a tuple's iterator, as zip asks for it: out of the rule for pyNext -/
theorem nextT_item {it a : Addr} {i : Nat} {xs : Array Value} {x : Value} {Q : Value → Shared → Prop} (h1 : s.heap.IsTupleIter it a i) (h2 : s.heap.IsTuple a xs) (hx : xs[i]? = some x)
    (hQ : ∀ h', h'.IsTupleIter it a (i + 1) → Heap.SameBut it s.heap h' → Q x { s with heap := h' }) : wpAny (model prog w) A (Builtin.SmallTypes.nextOf (.ref it)) Q E s := by
  obtain ⟨o, ho, hc, hd⟩ := id h1
  obtain ⟨ol, hol, _, nl, hdl⟩ := h2
  unfold Builtin.SmallTypes.nextOf
  refine wpAny_bind (wpAny_callSpecial?_slot (name := Str.ofString "__next__") h1.typeIs F.slot_tuple_iterator_next (wpAny_call_entry F.slot_tuple_iterator_next h1.typeIs F.entry_tuple_iterator_next ?_ (F.args_tuple_iterator_next_1 _)))
  show wpAny _ _ (field (.ref it) 0 >>= _) _ _ s
  refine wpAny_bind (wpAny_field ho hd (x := .ref a) rfl ?_)
  show wpAny _ _ (if (Value.ref a == Value.none) = true then _ else _) _ _ s
  rw [if_neg (show ¬ ((Value.ref a == Value.none) = true) from Bool.false_ne_true)]
  show wpAny _ _ (field (.ref it) 1 >>= _) _ _ s
  refine wpAny_bind (wpAny_field ho hd (x := .int i 0) rfl ?_)
  show wpAny _ _ (seqItems? (.ref a) >>= _) _ _ s
  refine wpAny_bind (wpAny_seqItems hol hdl ?_)
  simp only [Int.toNat_natCast, hx]
  refine wpAny_bind (wpAny_setField ho hd (by simp) (wpAny_pure ⟨x, rfl, wpAny_pure (hQ _ ?_ (Heap.SameBut.update ..))⟩))
  exact ⟨_, Heap.get?_update_self _ ho (Obj.isFreed_of_fields (Obj.data_mapFields hd _)), (Obj.cls_mapFields ..).trans hc, by rw [Obj.data_mapFields hd]; simp [rawInt]⟩
theorem nextT_end {it a : Addr} {i : Nat} {xs : Array Value} {Q : Value → Shared → Prop} (hh : A.handled = none) (h1 : s.heap.IsTupleIter it a i) (h2 : s.heap.IsTuple a xs) (hx : xs[i]? = none)
    (hE : ∀ h' e, Heap.ExtBut it s.heap h' → (∃ o, h'.get? e = some o ∧ o.cls = .type "StopIteration") → E (.ref e) { s with heap := h' }) : wpAny (model prog w) A (Builtin.SmallTypes.nextOf (.ref it)) Q E s := by
  obtain ⟨o, ho, hc, hd⟩ := id h1
  obtain ⟨ol, hol, _, nl, hdl⟩ := h2
  unfold Builtin.SmallTypes.nextOf
  refine wpAny_bind (wpAny_callSpecial?_slot (name := Str.ofString "__next__") h1.typeIs F.slot_tuple_iterator_next (wpAny_call_entry F.slot_tuple_iterator_next h1.typeIs F.entry_tuple_iterator_next ?_ (F.args_tuple_iterator_next_1 _)))
  show wpAny _ _ (field (.ref it) 0 >>= _) _ _ s
  refine wpAny_bind (wpAny_field ho hd (x := .ref a) rfl ?_)
  show wpAny _ _ (if (Value.ref a == Value.none) = true then _ else _) _ _ s
  rw [if_neg (show ¬ ((Value.ref a == Value.none) = true) from Bool.false_ne_true)]
  show wpAny _ _ (field (.ref it) 1 >>= _) _ _ s
  refine wpAny_bind (wpAny_field ho hd (x := .int i 0) rfl ?_)
  show wpAny _ _ (seqItems? (.ref a) >>= _) _ _ s
  refine wpAny_bind (wpAny_seqItems hol hdl ?_)
  simp only [Int.toNat_natCast, hx]
  refine wpAny_bind (wpAny_rule (wpAny_bind (wpAny_setField ho hd (by simp) ?_)))
  show wpAny _ _ (newExc (.type "StopIteration") [] >>= _) _ _ _
  refine wpAny_bind ?_
  simp only [newExc, newTuple]
  refine wpAny_bind (wpAny_newObj_type ?_ (by size_fits))
  refine wpAny_bind (m := firstArgMember _ _) (wpAny_of_eq (a := Value.none) (by first | rfl | (simp only [firstArgMember]; rfl)) ?_)
  refine wpAny_newObj_type ?_ (by size_fits)
  simp only [raiseNew]
  refine wpAny_bind (wpAny_handled ?_)
  first | rw [show A.in1.handled = none from hh] | rw [hh]
  refine wpAny_bind (wpAny_pure (wpAny_throw ?_))
  exact hE _ _ (((Heap.SameBut.update ..).extBut.push _).push _) ⟨_, Heap.get?_push_size _ rfl, rfl⟩
theorem nextK_item {it a : Addr} {i : Nat} {xs : Array Value} {x : Value} {Q : Value → Shared → Prop} (h1 : ItAt k s.heap it a i) (h2 : SqAt k s.heap a xs) (hx : xs[i]? = some x)
    (hQ : ∀ h', ItAt k h' it a (i + 1) → Heap.SameBut it s.heap h' → Q x { s with heap := h' }) : wpAny (model prog w) A (Builtin.SmallTypes.nextOf (.ref it)) Q E s := by
  cases k with
  | l => exact wpAny_nextOf_list_item h1 h2 hx hQ
  | t => exact nextT_item h1 h2 hx hQ
theorem nextK_end {it a : Addr} {i : Nat} {xs : Array Value} {Q : Value → Shared → Prop} (hh : A.handled = none) (h1 : ItAt k s.heap it a i) (h2 : SqAt k s.heap a xs) (hx : xs[i]? = none)
    (hE : ∀ h' e, Heap.ExtBut it s.heap h' → (∃ o, h'.get? e = some o ∧ o.cls = .type "StopIteration") → E (.ref e) { s with heap := h' }) : wpAny (model prog w) A (Builtin.SmallTypes.nextOf (.ref it)) Q E s := by
  cases k with
  | l => exact wpAny_nextOf_list_end hh h1 h2 hx hE
  | t => exact nextT_end hh h1 h2 hx hE
/-- one step of zip, both sides of any kind -/
theorem zipK_item {k1 k2 : Kd} {z TI TO i1 i2 a1 a2 : Addr} {n1 n2 : Nat} {xs ys : Array Value} {x y p q : Value} {Q : Value → Shared → Prop} (D : ZipApart z TI TO i1 i2 a1 a2)
    (hz : IsZip s.heap z TI TO .none) (hTI : IsPair s.heap TI (.ref i1) (.ref i2)) (hTO : IsPair s.heap TO p q) (h1 : ItAt k1 s.heap i1 a1 n1) (h2 : ItAt k2 s.heap i2 a2 n2) (l1 : SqAt k1 s.heap a1 xs) (l2 : SqAt k2 s.heap a2 ys)
    (hx : xs[n1]? = some x) (hy : ys[n2]? = some y)
    (hQ : ∀ h', IsZip h' z TI TO (rawInt s.heap.objs.size) → IsPair h' TO x y → ItAt k1 h' i1 a1 (n1 + 1) → ItAt k2 h' i2 a2 (n2 + 1) → IsPair h' s.heap.objs.size x y →
      (∀ c o, c ≠ z → c ≠ TO → c ≠ i1 → c ≠ i2 → s.heap.get? c = some o → h'.get? c = some o) → Q (.ref s.heap.objs.size) { s with heap := h' }) :
    wpAny (model prog w) A (Builtin.«zip.__next__» ⟨[.ref z], []⟩) (fun fin s' => ∃ v, fin = .done (.ret v) ∧ Q v s') E s := by
  show wpAny _ _ (field (.ref z) 2 >>= _) _ _ _
  refine wpAny_bind (wpAny_field hz rfl (x := .bool false) rfl ?_)
  show wpAny _ _ (field (.ref z) 3 >>= _) _ _ _
  refine wpAny_bind (wpAny_field hz rfl (x := .ref TI) rfl ?_)
  refine wpAny_bind (wpAny_seqItems hTI rfl ?_)
  show wpAny _ _ (Builtin.SmallTypes.ownedTupleIsFree (.ref z) >>= _) _ _ _
  refine wpAny_bind ?_
  unfold Builtin.SmallTypes.ownedTupleIsFree
  refine wpAny_bind (wpAny_field hz rfl (x := .none) rfl (wpAny_pure ?_))
  simp only [if_true]
  refine wpAny_bind (wpAny_rule (wpAny_bind (wpAny_field hz rfl (x := .ref TO) rfl (wpAny_bind (wpAny_setField_rec hz (by simp) fun g1 z1 s1 => ?_)))))
  replace z1 : IsZip g1 z TI TO .ellipsis := z1
  refine wpAny_bind ?_
  simp only [List.zipIdx_cons, List.zipIdx_nil, List.forIn_cons, List.forIn_nil]
  have m1 : ∀ c o, c ≠ z → s.heap.get? c = some o → g1.get? c = some o := fun c o hc e => s1.extBut _ _ hc e
  refine wpAny_bind (wpAny_bind (wpAny_onRaise ?_))
  show wpAny _ _ (Builtin.SmallTypes.nextOf (.ref i1) >>= _) _ _ _
  refine wpAny_bind (nextK_item (h1.move fun o e => m1 _ o D.i1z e) (l1.move fun o e => m1 _ o D.l1z e) hx fun g2 j2 s2 => wpAny_pure ?_)
  have m2 : ∀ c o, c ≠ z → c ≠ i1 → s.heap.get? c = some o → g2.get? c = some o := fun c o hc hd e => s2.extBut _ _ hd (m1 c o hc e)
  have o2 : IsPair g2 TO p q := m2 _ _ D.TOz D.TOi1 hTO
  refine wpAny_bind (wpAny_seqItems o2 rfl (wpAny_bind (wpAny_updateSeq_pair o2 fun g3 o3 s3 => ?_)))
  replace o3 : IsPair g3 TO x q := o3
  refine wpAny_bind (wpAny_letGo (wpAny_pure ?_))
  have m3 : ∀ c o, c ≠ z → c ≠ i1 → c ≠ TO → s.heap.get? c = some o → g3.get? c = some o := fun c o hc hd he e => s3.extBut _ _ he (m2 c o hc hd e)
  refine wpAny_bind (wpAny_bind (wpAny_onRaise ?_))
  show wpAny _ _ (Builtin.SmallTypes.nextOf (.ref i2) >>= _) _ _ _
  refine wpAny_bind (nextK_item (h2.move fun o e => m3 _ o D.i2z D.i12.symm D.TOi2.symm e) (l2.move fun o e => m3 _ o D.l2z D.l2i1 D.l2TO e) hy fun g4 j4 s4 => wpAny_pure ?_)
  have o4 : IsPair g4 TO x q := s4.extBut _ _ D.TOi2 o3
  refine wpAny_bind (wpAny_seqItems o4 rfl (wpAny_bind (wpAny_updateSeq_pair o4 fun g5 o5 s5 => ?_)))
  replace o5 : IsPair g5 TO x y := o5
  refine wpAny_bind (wpAny_letGo (wpAny_pure (wpAny_pure ?_)))
  refine wpAny_bind (wpAny_seqItems o5 rfl (wpAny_bind (wpAny_newTuple ?_)))
  have hsz : g5.objs.size = s.heap.objs.size := by rw [s5.1, s4.1, s3.1, s2.1, s1.1]
  have z5 : IsZip g5 z TI TO .ellipsis := s5.extBut _ _ D.TOz.symm (s4.extBut _ _ D.i2z.symm (s3.extBut _ _ D.TOz.symm (s2.extBut _ _ D.i1z.symm z1)))
  have m5 : ∀ c o, c ≠ z → c ≠ TO → c ≠ i1 → c ≠ i2 → s.heap.get? c = some o → g5.get? c = some o := fun c o c1 c2 c3 c4 e => s5.extBut _ _ c2 (s4.extBut _ _ c4 (m3 c o c1 c3 c2 e))
  have t1 : ItAt k1 g5 i1 a1 (n1 + 1) := j2.move fun o e => s5.extBut _ _ D.TOi1.symm (s4.extBut _ _ D.i12 (s3.extBut _ _ D.TOi1.symm e))
  have t2 : ItAt k2 g5 i2 a2 (n2 + 1) := j4.move fun o e => s5.extBut _ _ D.TOi2.symm e
  have zlt : z < g5.objs.size := Heap.lt_size z5
  show wpAny _ _ (Builtin.SmallTypes.ownedTupleHandOut (.ref z) (.ref g5.objs.size) >>= _) _ _ _
  refine wpAny_bind ?_
  unfold Builtin.SmallTypes.ownedTupleHandOut
  have z6 : IsZip (g5.push { cls := .type "tuple", data := .seq #[x, y] }) z TI TO .ellipsis := Heap.get?_push_of_some _ z5
  refine wpAny_bind (wpAny_setField_rec z6 (by simp) fun g7 z7 s7 => ?_)
  replace z7 : IsZip g7 z TI TO (rawInt g5.objs.size) := z7
  refine wpAny_setField_rec z7 (by simp) fun g8 z8 s8 => ?_
  replace z8 : IsZip g8 z TI TO (rawInt g5.objs.size) := z8
  have up : ∀ c o, c ≠ z → g5.get? c = some o → g8.get? c = some o := fun c o c1 e => s8.extBut _ _ c1 (s7.extBut _ _ c1 (Heap.get?_push_of_some _ e))
  have t8 : IsPair g8 g5.objs.size x y := s8.extBut _ _ (Nat.ne_of_gt zlt) (s7.extBut _ _ (Nat.ne_of_gt zlt) (Heap.get?_push_size _ rfl))
  rw [hsz] at z8 t8
  refine wpAny_pure ⟨_, rfl, ?_⟩
  show Q (.ref g5.objs.size) _
  rw [hsz]
  exact hQ g8 z8 (up _ _ D.TOz o5) (t1.move fun o e => up _ o D.i1z e) (t2.move fun o e => up _ o D.i2z e) t8 fun c o c1 c2 c3 c4 e => up c o c1 (m5 c o c1 c2 c3 c4 e)
theorem zipK_end {k1 k2 : Kd} {z TI TO i1 i2 a1 a2 : Addr} {n1 n2 : Nat} {xs ys : Array Value} {p q : Value} {Q : Fin → Shared → Prop} (hh : A.handled = none) (D : ZipApart z TI TO i1 i2 a1 a2)
    (hz : IsZip s.heap z TI TO .none) (hTI : IsPair s.heap TI (.ref i1) (.ref i2)) (hTO : IsPair s.heap TO p q) (h1 : ItAt k1 s.heap i1 a1 n1) (h2 : ItAt k2 s.heap i2 a2 n2) (l1 : SqAt k1 s.heap a1 xs) (l2 : SqAt k2 s.heap a2 ys)
    (hend : xs[n1]? = none ∨ ys[n2]? = none)
    (hE : ∀ h' e, (∀ c o, c ≠ z → c ≠ TO → c ≠ i1 → c ≠ i2 → s.heap.get? c = some o → h'.get? c = some o) → (∃ o, h'.get? e = some o ∧ o.cls = .type "StopIteration") → E (.ref e) { s with heap := h' }) :
    wpAny (model prog w) A (Builtin.«zip.__next__» ⟨[.ref z], []⟩) Q E s := by
  show wpAny _ _ (field (.ref z) 2 >>= _) _ _ _
  refine wpAny_bind (wpAny_field hz rfl (x := .bool false) rfl ?_)
  show wpAny _ _ (field (.ref z) 3 >>= _) _ _ _
  refine wpAny_bind (wpAny_field hz rfl (x := .ref TI) rfl ?_)
  refine wpAny_bind (wpAny_seqItems hTI rfl ?_)
  show wpAny _ _ (Builtin.SmallTypes.ownedTupleIsFree (.ref z) >>= _) _ _ _
  refine wpAny_bind ?_
  unfold Builtin.SmallTypes.ownedTupleIsFree
  refine wpAny_bind (wpAny_field hz rfl (x := .none) rfl (wpAny_pure ?_))
  simp only [if_true]
  refine wpAny_bind (wpAny_rule (wpAny_bind (wpAny_field hz rfl (x := .ref TO) rfl (wpAny_bind (wpAny_setField_rec hz (by simp) fun g1 z1 s1 => ?_)))))
  replace z1 : IsZip g1 z TI TO .ellipsis := z1
  refine wpAny_bind ?_
  simp only [List.zipIdx_cons, List.zipIdx_nil, List.forIn_cons, List.forIn_nil]
  have m1 : ∀ c o, c ≠ z → s.heap.get? c = some o → g1.get? c = some o := fun c o hc e => s1.extBut _ _ hc e
  refine wpAny_bind (wpAny_bind (wpAny_onRaise ?_))
  show wpAny _ _ (Builtin.SmallTypes.nextOf (.ref i1) >>= _) _ _ _
  cases hx : xs[n1]? with
  | none =>
    refine wpAny_bind (nextK_end hh (h1.move fun o e => m1 _ o D.i1z e) (l1.move fun o e => m1 _ o D.l1z e) hx fun g2 e s2 he => ?_)
    obtain ⟨oe, hoe, hce⟩ := he
    have z2 : IsZip g2 z TI TO .ellipsis := s2 _ _ D.i1z.symm z1
    have hez : e ≠ z := fun x => by subst x; rw [z2] at hoe; cases hoe; simp at hce
    refine wpAny_setField_rec z2 (by simp) fun g3 _ s3 => hE g3 e (fun c o c1 _ c3 _ x => s3.extBut _ _ c1 (s2 _ _ c3 (m1 c o c1 x))) ⟨oe, s3.extBut _ _ hez hoe, hce⟩
  | some x =>
    have hy : ys[n2]? = none := by rcases hend with h | h; rw [hx] at h; cases h; exact h
    refine wpAny_bind (nextK_item (h1.move fun o e => m1 _ o D.i1z e) (l1.move fun o e => m1 _ o D.l1z e) hx fun g2 j2 s2 => wpAny_pure ?_)
    have m2 : ∀ c o, c ≠ z → c ≠ i1 → s.heap.get? c = some o → g2.get? c = some o := fun c o hc hd e => s2.extBut _ _ hd (m1 c o hc e)
    have o2 : IsPair g2 TO p q := m2 _ _ D.TOz D.TOi1 hTO
    refine wpAny_bind (wpAny_seqItems o2 rfl (wpAny_bind (wpAny_updateSeq_pair o2 fun g3 o3 s3 => ?_)))
    refine wpAny_bind (wpAny_letGo (wpAny_pure ?_))
    have m3 : ∀ c o, c ≠ z → c ≠ i1 → c ≠ TO → s.heap.get? c = some o → g3.get? c = some o := fun c o hc hd he e => s3.extBut _ _ he (m2 c o hc hd e)
    refine wpAny_bind (wpAny_bind (wpAny_onRaise ?_))
    show wpAny _ _ (Builtin.SmallTypes.nextOf (.ref i2) >>= _) _ _ _
    refine wpAny_bind (nextK_end hh (h2.move fun o e => m3 _ o D.i2z D.i12.symm D.TOi2.symm e) (l2.move fun o e => m3 _ o D.l2z D.l2i1 D.l2TO e) hy fun g4 e s4 he => ?_)
    obtain ⟨oe, hoe, hce⟩ := he
    have z4 : IsZip g4 z TI TO .ellipsis := s4 _ _ D.i2z.symm (s3.extBut _ _ D.TOz.symm (s2.extBut _ _ D.i1z.symm z1))
    have hez : e ≠ z := fun x => by subst x; rw [z4] at hoe; cases hoe; simp at hce
    refine wpAny_setField_rec z4 (by simp) fun g5 _ s5 => hE g5 e (fun c o c1 c2 c3 c4 x => s5.extBut _ _ c1 (s4 _ _ c4 (m3 c o c1 c3 c2 x))) ⟨oe, s5.extBut _ _ hez hoe, hce⟩
theorem nextZ_item {k1 k2 : Kd} {z TI TO i1 i2 a1 a2 : Addr} {n1 n2 : Nat} {xs ys : Array Value} {x y p q : Value} {Q : Option Value → Shared → Prop} (D : ZipApart z TI TO i1 i2 a1 a2)
    (hz : IsZip s.heap z TI TO .none) (hTI : IsPair s.heap TI (.ref i1) (.ref i2)) (hTO : IsPair s.heap TO p q) (h1 : ItAt k1 s.heap i1 a1 n1) (h2 : ItAt k2 s.heap i2 a2 n2) (l1 : SqAt k1 s.heap a1 xs) (l2 : SqAt k2 s.heap a2 ys)
    (hx : xs[n1]? = some x) (hy : ys[n2]? = some y)
    (hQ : ∀ h', IsZip h' z TI TO (rawInt s.heap.objs.size) → IsPair h' TO x y → ItAt k1 h' i1 a1 (n1 + 1) → ItAt k2 h' i2 a2 (n2 + 1) → IsPair h' s.heap.objs.size x y →
      (∀ c o, c ≠ z → c ≠ TO → c ≠ i1 → c ≠ i2 → s.heap.get? c = some o → h'.get? c = some o) → Q (some (.ref s.heap.objs.size)) { s with heap := h' }) :
    wpAny (model prog w) A (pyNext (.ref z)) Q E s := by
  have hT : s.TypeIs (.ref z) "zip" := ⟨_, hz, rfl⟩
  unfold pyNext
  exact wpAny_bind (wpAny_attempt (wpAny_callSpecial?_slot (name := Str.ofString "__next__") hT F.slot_zip_next (wpAny_call_entry F.slot_zip_next hT F.entry_zip_next
    (zipK_item D hz hTI hTO h1 h2 l1 l2 hx hy fun h' b1 b2 b3 b4 b5 b6 => wpAny_pure (hQ h' b1 b2 b3 b4 b5 b6)) (F.args_zip_next_1 _))))
theorem nextZ_end {k1 k2 : Kd} {z TI TO i1 i2 a1 a2 : Addr} {n1 n2 : Nat} {xs ys : Array Value} {p q : Value} {Q : Option Value → Shared → Prop} (hh : A.handled = none) (D : ZipApart z TI TO i1 i2 a1 a2)
    (hz : IsZip s.heap z TI TO .none) (hTI : IsPair s.heap TI (.ref i1) (.ref i2)) (hTO : IsPair s.heap TO p q) (h1 : ItAt k1 s.heap i1 a1 n1) (h2 : ItAt k2 s.heap i2 a2 n2) (l1 : SqAt k1 s.heap a1 xs) (l2 : SqAt k2 s.heap a2 ys)
    (hend : xs[n1]? = none ∨ ys[n2]? = none)
    (hQ : ∀ h', (∀ c o, c ≠ z → c ≠ TO → c ≠ i1 → c ≠ i2 → s.heap.get? c = some o → h'.get? c = some o) → Q none { s with heap := h' }) : wpAny (model prog w) A (pyNext (.ref z)) Q E s := by
  have hT : s.TypeIs (.ref z) "zip" := ⟨_, hz, rfl⟩
  unfold pyNext
  refine wpAny_bind (wpAny_attempt (wpAny_callSpecial?_slot (name := Str.ofString "__next__") hT F.slot_zip_next (wpAny_call_entry F.slot_zip_next hT F.entry_zip_next
    (zipK_end hh D hz hTI hTO h1 h2 l1 l2 hend fun h' e hk he => ?_) (F.args_zip_next_1 _))))
  obtain ⟨o, ho, hc⟩ := he
  refine wpAny_bind (wpAny_isInstance (T := "StopIteration") (b := true) ⟨o, ho, hc⟩ isSubtype_stop ?_)
  exact wpAny_pure (hQ _ hk)
/-! making one -/
abbrev zK1 (h : Heap) (k1 : Kd) (a1 : Addr) : Heap := h.push { cls := .type k1.it, data := .fields #[.ref a1, .int 0 0] }
abbrev zK2 (h : Heap) (k1 k2 : Kd) (a1 a2 : Addr) : Heap := (zK1 h k1 a1).push { cls := .type k2.it, data := .fields #[.ref a2, .int 0 0] }
abbrev zK3 (h : Heap) (k1 k2 : Kd) (a1 a2 : Addr) : Heap := (zK2 h k1 k2 a1 a2).push { cls := .type "tuple", data := .seq #[.ref h.objs.size, .ref (zK1 h k1 a1).objs.size] }
abbrev zK4 (h : Heap) (k1 k2 : Kd) (a1 a2 : Addr) : Heap := (zK3 h k1 k2 a1 a2).push { cls := .type "tuple", data := .seq #[.none, .none] }
abbrev zK5 (h : Heap) (k1 k2 : Kd) (a1 a2 : Addr) : Heap := (zK4 h k1 k2 a1 a2).push { cls := .type "zip", data := .fields #[.none, .bool false, .bool false, .ref (zK2 h k1 k2 a1 a2).objs.size, .ref (zK3 h k1 k2 a1 a2).objs.size] }
theorem iterK {k : Kd} {a : Addr} {xs : Array Value} {Q : Value → Shared → Prop} (h : SqAt k s.heap a xs) (q : Q (.ref s.heap.objs.size) { s with heap := s.heap.push { cls := .type k.it, data := .fields #[.ref a, .int 0 0] } }) : wpAny (model prog w) A (pyIter (.ref a)) Q E s := by
  cases k with
  | l => exact wpAny_pyIter_list h q
  | t => exact wpAny_pyIter_tuple h q
theorem zipK_new (k1 k2 : Kd) (a1 a2 : Addr) (xs ys : Array Value) : Meets (Builtin.«zip.__new__» ⟨[.type "zip", .ref a1, .ref a2], []⟩) (fun _ R s => SqAt k1 s.heap a1 xs ∧ SqAt k2 s.heap a2 ys ∧
      R (.ok (.ret (.ref (zK4 s.heap k1 k2 a1 a2).objs.size))) { s with heap := zK5 s.heap k1 k2 a1 a2 }) :=
  .of_wp fun prog w A R s h => by
    obtain ⟨hp, g, d, tk, os⟩ := s; obtain ⟨hl1, hl2, h⟩ := h
    have hsub := sub_zip
    have hL1 : SqAt k1 (Shared.heap ⟨hp, g, d, tk, os⟩) a1 xs := hl1
    have hL2 : SqAt k2 (Shared.heap ⟨hp.push { cls := .type k1.it, data := .fields #[.ref a1, .int 0 0] }, g, d, tk, os⟩) a2 ys := SqAt.move hl2 fun o e => Heap.get?_push_of_some _ e
    wp_walk using iterK hL1, iterK hL2
    exact ⟨_, rfl, h⟩
theorem callZ {k1 k2 : Kd} {a1 a2 : Addr} {xs ys : Array Value} {Q : Value → Shared → Prop} (l1 : SqAt k1 s.heap a1 xs) (l2 : SqAt k2 s.heap a2 ys)
    (h : ∀ h', IsZip h' (s.heap.objs.size + 4) (s.heap.objs.size + 2) (s.heap.objs.size + 3) .none → IsPair h' (s.heap.objs.size + 2) (.ref s.heap.objs.size) (.ref (s.heap.objs.size + 1)) →
      IsPair h' (s.heap.objs.size + 3) .none .none → ItAt k1 h' s.heap.objs.size a1 0 → ItAt k2 h' (s.heap.objs.size + 1) a2 0 →
      (∀ c o, s.heap.get? c = some o → h'.get? c = some o) → Q (.ref (s.heap.objs.size + 4)) { s with heap := h' }) :
    wpAny (model prog w) A (call (.type "zip") [.ref a1, .ref a2]) Q E s := by
  refine callType_new F.called_zip (by decide) (F.typeCall_zip_2 _ _) (F.newCall_zip_2 _ _) (fun obj => F.args_object_init_3 obj _ _) F.entry_zip_new (zipK_new k1 k2 a1 a2 xs ys) ⟨l1, l2, ?_⟩
  have z1 : (zK1 s.heap k1 a1).objs.size = s.heap.objs.size + 1 := Heap.size_push ..
  have z2 : (zK2 s.heap k1 k2 a1 a2).objs.size = s.heap.objs.size + 2 := by rw [Heap.size_push, z1]
  have z3 : (zK3 s.heap k1 k2 a1 a2).objs.size = s.heap.objs.size + 3 := by rw [Heap.size_push, z2]
  have z4 : (zK4 s.heap k1 k2 a1 a2).objs.size = s.heap.objs.size + 4 := by rw [Heap.size_push, z3]
  have g5 : (zK5 s.heap k1 k2 a1 a2).get? (zK4 s.heap k1 k2 a1 a2).objs.size = some _ := Heap.get?_push_size _ rfl
  have g4 : (zK5 s.heap k1 k2 a1 a2).get? (zK3 s.heap k1 k2 a1 a2).objs.size = some _ := Heap.get?_push_of_some _ (Heap.get?_push_size _ rfl)
  have g3 : (zK5 s.heap k1 k2 a1 a2).get? (zK2 s.heap k1 k2 a1 a2).objs.size = some _ := Heap.get?_push_of_some _ (Heap.get?_push_of_some _ (Heap.get?_push_size _ rfl))
  have g2 : (zK5 s.heap k1 k2 a1 a2).get? (zK1 s.heap k1 a1).objs.size = some _ := Heap.get?_push_of_some _ (Heap.get?_push_of_some _ (Heap.get?_push_of_some _ (Heap.get?_push_size _ rfl)))
  have g1 : (zK5 s.heap k1 k2 a1 a2).get? s.heap.objs.size = some _ := Heap.get?_push_of_some _ (Heap.get?_push_of_some _ (Heap.get?_push_of_some _ (Heap.get?_push_of_some _ (Heap.get?_push_size _ rfl))))
  show _ ∧ _
  rw [z2, z3, z4] at g5
  rw [z1, z2] at g3
  rw [z3] at g4
  rw [z1] at g2
  rw [z4]
  have i1 : ItAt k1 (zK5 s.heap k1 k2 a1 a2) s.heap.objs.size a1 0 := by cases k1 <;> exact ⟨_, g1, rfl, rfl⟩
  have i2 : ItAt k2 (zK5 s.heap k1 k2 a1 a2) (s.heap.objs.size + 1) a2 0 := by cases k2 <;> exact ⟨_, g2, rfl, rfl⟩
  exact ⟨⟨_, g5, rfl⟩, h _ g5 g3 g4 i1 i2 fun c o x => Heap.get?_push_of_some _ (Heap.get?_push_of_some _ (Heap.get?_push_of_some _ (Heap.get?_push_of_some _ (Heap.get?_push_of_some _ x))))⟩
end
/-- a list or a tuple by its kind, in the abstract heap -/
def SqK (k : Kd) (K : PySem.W.Frag) (H : Hp) (a : Addr) (xs : List V) : Prop := match k with
  | .l => SqL K H a xs
  | .t => SqT K H a xs
section
variable {X : Cx} {pins : List (Addr × Obj)} {σ : L2.St} {H : Hp} {s : Shared} {a : Addr} {xs ys : List V} {k : Kd}
theorem sqK (I : Inv X pins σ H s) (h : SqK k X.K H a xs) : ∃ its : List Value, Vals xs its ∧ SqAt k s.heap a its.toArray := by
  cases k with
  | l => obtain ⟨its, r, p, _⟩ := I.list h; exact ⟨its, r, p.isList⟩
  | t => obtain ⟨its, r, p, _⟩ := I.tuple h; exact ⟨its, r, p⟩
theorem sqK_inj (I : Inv X pins σ H s) (h : SqK k X.K H a xs) (h' : SqK k X.K H a ys) : xs = ys := by
  cases k with
  | l => exact I.list_inj h h'
  | t => exact I.tuple_inj h h'
end
/-- both as they stand at each turn, the items in new pairs -/
def ItzK (k1 k2 : Kd) (K : PySem.W.Frag) (a b : Addr) : It :=
  ⟨fun i H => ∃ (xs ys : List V) (x y : V), SqK k1 K H a xs ∧ SqK k2 K H b ys ∧ xs[i]? = some x ∧ ys[i]? = some y,
    fun i H v H' => ∃ T x y, v = .ref T ∧ H T = none ∧ H' = upd H T (.tup [x, y]) ∧ (∀ xs, SqK k1 K H a xs → xs[i]? = some x) ∧ ∀ ys, SqK k2 K H b ys → ys[i]? = some y,
    fun i H => ∃ xs ys : List V, SqK k1 K H a xs ∧ SqK k2 K H b ys ∧ (xs.length ≤ i ∨ ys.length ≤ i)⟩
theorem turnZ {P : Program} {w : World} {K : PySem.W.Frag} {elts : List Expr} {kk : Nat} {tpos : Pos} {k1 k2 : Kd} {a b z TI TO i1 i2 : Addr} (D : ZipApart z TI TO i1 i2 a b) :
    Turn P w K (.Tuple elts kk tpos) (ItzK k1 k2 K a b) [z, TI, TO, i1, i2] z (fun i h => IsZip h z TI TO .none ∧ IsPair h TI (.ref i1) (.ref i2) ∧ (∃ x y, IsPair h TO x y) ∧ ItAt k1 h i1 a i ∧ ItAt k2 h i2 b i) where
  mem := by simp
  obj := fun i h st c hc => by
    obtain ⟨hz, hTI, ⟨x, y, hTO⟩, h1, h2⟩ := st
    have e' : c = z ∨ c = TI ∨ c = TO ∨ c = i1 ∨ c = i2 := by simpa using hc
    rcases e' with q | q | q | q | q
    · rw [q]; exact ⟨_, hz, fun v q => nomatch q⟩
    · rw [q]; exact ⟨_, hTI, fun v q => nomatch q⟩
    · rw [q]; exact ⟨_, hTO, fun v q => nomatch q⟩
    · rw [q]; exact h1.obj
    · rw [q]; exact h2.obj
  keep := fun i h h' st k => by
    obtain ⟨hz, hTI, ⟨x, y, hTO⟩, h1, h2⟩ := st
    exact ⟨k z (by simp) _ hz, k TI (by simp) _ hTI, ⟨x, y, k TO (by simp) _ hTO⟩, h1.move fun o q => k i1 (by simp) o q, h2.move fun o q => k i2 (by simp) o q⟩
  item := by
    intro X hP hw hK hc i pins s σ H E I hf st hg
    subst hP hw hK
    obtain ⟨hz, hTI, ⟨x0, y0, hTO⟩, h1, h2⟩ := st
    obtain ⟨xs, ys, x, y, hqx, hqy, hx, hy⟩ := hg
    obtain ⟨its, rv, p⟩ := sqK I hqx
    obtain ⟨its2, rv2, p2⟩ := sqK I hqy
    obtain ⟨u, hu, ru⟩ := rv.get hx
    obtain ⟨u2, hu2, ru2⟩ := rv2.get hy
    have hzl : z < s.heap.objs.size := Heap.lt_size hz
    refine nextZ_item D hz hTI hTO h1 h2 p p2 (x := u) (y := u2) (by simpa using hu) (by simpa using hu2) fun h' z' TO' h1' h2' hT hk => ?_
    refine ⟨_, rfl, wpAny_letOwnedTupleGo_zip (s := { s with heap := h' }) z' fun h'' z'' sb => ?_⟩
    have hT2 : h''.get? s.heap.objs.size = some { cls := .type "tuple", data := .seq #[u, u2] } := (sb.2 _ (Nat.ne_of_gt hzl)).trans hT
    have new : ObjOk X.prog X.w (upd H s.heap.objs.size (.tup [x, y])) h'' s.heap.objs.size (.tup [x, y]) := ⟨by show 2 ≤ sizeLine; decide, [u, u2], .cons ru (.cons ru2 .nil), ⟨_, hT2, rfl, _, rfl⟩⟩
    have I1 : Inv X pins σ (upd H s.heap.objs.size (.tup [x, y])) { s with heap := h'' } :=
      I.turnedNew (t' := s.toks) (ch := [z, TI, TO, i1, i2]) (fun c o hb q => (sb.2 c (fun q' => hb (by simp [q']))).trans (hk c o (fun q' => hb (by simp [q'])) (fun q' => hb (by simp [q'])) (fun q' => hb (by simp [q'])) (fun q' => hb (by simp [q'])) q)) hf (Nat.le_refl _) new
    refine ⟨.ref s.heap.objs.size, _, I1, rfl, ⟨_, x, y, rfl, I.hok.fresh (Nat.le_refl _), rfl, fun l hl => by rw [sqK_inj I hl hqx]; exact hx, fun l hl => by rw [sqK_inj I hl hqy]; exact hy⟩, ⟨z'', ?_, ⟨u, u2, ?_⟩, ?_, ?_⟩, fun c hcm => ?_⟩
    · exact (sb.2 _ D.TIz).trans (hk _ _ D.TIz D.TITO D.TIi1 D.TIi2 hTI)
    · exact (sb.2 _ D.TOz).trans TO'
    · exact h1'.move fun o q => (sb.2 _ D.i1z).trans q
    · exact h2'.move fun o q => (sb.2 _ D.i2z).trans q
    · have hlt : c < s.heap.objs.size := by
        have e' : c = z ∨ c = TI ∨ c = TO ∨ c = i1 ∨ c = i2 := by simpa using hcm
        rcases e' with q | q | q | q | q
        · rw [q]; exact hzl
        · rw [q]; exact Heap.lt_size hTI
        · rw [q]; exact Heap.lt_size hTO
        · rw [q]; obtain ⟨_, e1, _⟩ := h1.obj; exact Heap.lt_size e1
        · rw [q]; obtain ⟨_, e2, _⟩ := h2.obj; exact Heap.lt_size e2
      rw [upd_ne (Nat.ne_of_lt hlt)]
      exact (hf c hcm).1
  done := by
    intro X hP hw hK hc i pins s σ H E I hf st hg
    subst hP hw hK
    obtain ⟨hz, hTI, ⟨x0, y0, hTO⟩, h1, h2⟩ := st
    obtain ⟨xs, ys, hqx, hqy, hend⟩ := hg
    obtain ⟨its, rv, p⟩ := sqK I hqx
    obtain ⟨its2, rv2, p2⟩ := sqK I hqy
    have l1 := rv.length
    have l2 := rv2.length
    have he : its.toArray[i]? = none ∨ its2.toArray[i]? = none := by
      rcases hend with q | q
      · exact .inl (by simp; omega)
      · exact .inr (by simp; omega)
    exact nextZ_end (I.ok.hd hc) D hz hTI hTO h1 h2 p p2 he fun h' hk => ⟨rfl, I.turnedL (t' := s.toks) (ch := [z, TI, TO, i1, i2]) (fun c o hb q =>
      hk c o (fun q' => hb (by simp [q'])) (fun q' => hb (by simp [q'])) (fun q' => hb (by simp [q'])) (fun q' => hb (by simp [q'])) q) hf⟩
  self := fun A i s Q E st h => wpAny_pyIter_zip st.1 h
def iZipK (K : PySem.W.Frag) (ta : TA) : TI := fun σ H R => ta σ H fun vs H1 => ∃ k1 k2 a b xs ys, vs = [.ref a, .ref b] ∧ SqK k1 K H1 a xs ∧ SqK k2 K H1 b ys ∧ R (ItzK k1 k2 K a b) H1
theorem piZ {X : Cx} {e e2 : Expr} {ta : TA} {p pos tpos : Pos} {elts : List Expr} {kk : Nat} (hg : Gl X "zip") (hm : X.mg "zip" = none) (ha : PA X [e, e2] ta)
    (hs : starEach [e, e2] X.env = (false, eval e X.env) :: starEach [e2] X.env) (hpl : (backTo pos (starEach [e2] X.env)).any (·.1) = false) :
    PI X (.Tuple elts kk tpos) (.Call (.Name "zip" p) [e, e2] [] pos) (iZipK X.K ta) := by
  intro pins s σ H R I h
  refine Call_ (ld_blt I hg hm boot_zip5 (PyProof.Rows.callWith_type1 (thn (ha pos pins s σ H _ I h) fun us s1 ⟨vs, H1, I1, r1, q1⟩ => ?_) hs hpl))
  obtain ⟨k1, k2, a, b, xs, ys, ex, hqx, hqy, q⟩ := q1
  subst ex
  obtain ⟨u1, u2, rfl, r, r'⟩ := vals2 r1
  cases r
  cases r'
  obtain ⟨its, rv, p1⟩ := sqK I1 hqx
  obtain ⟨its2, rv2, p2⟩ := sqK I1 hqy
  refine callZ p1 p2 fun h' hz hTI hTO h1 h2 hk => wpAny_pyIter_zip hz ?_
  have I2 : Inv X pins σ H1 { s1 with heap := h' } := I1.kept (t' := s1.toks) hk
  refine ⟨s1.heap.objs.size + 4, [s1.heap.objs.size + 4, s1.heap.objs.size + 2, s1.heap.objs.size + 3, s1.heap.objs.size, s1.heap.objs.size + 1], _, _, H1, rfl, I2, turnZ (PySem.W.ktu_apart s1.heap.objs.size a b p1.lt p2.lt), ⟨hz, hTI, ⟨_, _, hTO⟩, h1, h2⟩, fun c hcm => ?_, q⟩
  have e' : c = s1.heap.objs.size + 4 ∨ c = s1.heap.objs.size + 2 ∨ c = s1.heap.objs.size + 3 ∨ c = s1.heap.objs.size ∨ c = s1.heap.objs.size + 1 := by simpa using hcm
  have hle : s1.heap.objs.size ≤ c := by rcases e' with z | z | z | z | z <;> (rw [z]; omega)
  exact I1.fpOk hle (I1.hok.fresh hle)
/-! as a source of items -/
theorem zipP_get : ∀ {xs ys : List PyData} {i : Nat} {z : PyData}, (zipP xs ys)[i]? = some z → ∃ x y, xs[i]? = some x ∧ ys[i]? = some y ∧ z = .tuple [x, y]
  | [], _, _, _, h => by cases h
  | _ :: _, [], _, _, h => by cases h
  | x :: xs, y :: ys, 0, z, h => by cases h; exact ⟨x, y, rfl, rfl, rfl⟩
  | x :: xs, y :: ys, i + 1, z, h => zipP_get (xs := xs) (ys := ys) h
theorem zipP_len : ∀ {xs ys : List PyData} {i : Nat}, (zipP xs ys).length ≤ i → xs.length ≤ i ∨ ys.length ≤ i
  | [], _, _, _ => .inl (Nat.zero_le _)
  | _ :: _, [], _, _ => .inr (Nat.zero_le _)
  | x :: xs, y :: ys, 0, h => by cases h
  | x :: xs, y :: ys, i + 1, h => by
    rcases zipP_len (xs := xs) (ys := ys) (i := i) (Nat.le_of_succ_le_succ h) with z | z
    · exact .inl (Nat.succ_le_succ z)
    · exact .inr (Nat.succ_le_succ z)
section
variable {X : Cx} {sc : List Int} {E : XW} {a b c tg : Expr} {ga gb : En → Sto → R U} {pos : Pos}
theorem sq_of {ρ : Ad} {H : Hp} {u : U} {v : V} {k : Kd} {xs : List PyData} (r : RU X.K sc ρ H u v) (e : asSeq u = some (k, xs)) :
    ∃ p, v = .ref p ∧ ∀ (ρ' : Ad) (H' : Hp), Ex ρ H ρ' H' → ∃ vs, SqK k X.K H' p vs ∧ DRs X.K ρ' H' vs xs := by
  unfold asSeq at e
  split at e
  · cases e
    cases r with
    | lst r n q => exact ⟨_, rfl, fun ρ' H' x => ⟨_, .inl (Rd.kp x.kp n r), q.ext x⟩⟩
  · cases e
    cases r with
    | tup r n q => exact ⟨_, rfl, fun ρ' H' x => ⟨_, .inl (Rd.kp x.kp n r), q.ext x⟩⟩
    | ktup r q => exact ⟨_, rfl, fun ρ' H' x => ⟨_, .inr r, q.ext x⟩⟩
  · cases e
def gZip (ga gb : En → Sto → R U) : En → Sto → R (List PyData × Option Nat) := fun σ S => (ga σ S).bd fun x S1 => (gb σ S1).bd fun y S2 => match asSeq x, asSeq y with
      | some (_, xs), some (_, ys) => .ok (zipP xs ys, none) S2
      | _, _ => .bad
theorem s_zip {p tpos : Pos} {elts : List Expr} {kk : Nat} (hg : Gl X "zip") (hm : X.mg "zip" = none) (ha : PE X a (tE X.K sc E ga)) (hb : PE X b (tE X.K sc E gb)) (hn : NoStar X [a, b]) :
    PI X (.Tuple elts kk tpos) (.Call (.Name "zip" p) [a, b] [] pos) (tI X.K sc E (gZip ga gb)) := by
  have h1 : starEach [b] X.env = [(false, eval b X.env)] := hn b (List.mem_cons_of_mem _ List.mem_cons_self) []
  have h2 : (backTo pos (starEach [b] X.env)).any (·.1) = false := NoStar.any fun z hz => hn z (List.mem_cons_of_mem _ hz)
  refine PI.imp (piZ hg hm (pa_cons ha (pa_cons hb pa_nil h1) (hn a List.mem_cons_self [b])) (hn a List.mem_cons_self [b]) h2) fun σ H R ⟨ρ, σu, S, hS, hE, w⟩ => ?_
  refine W.bd hS hE w fun u S1 v H1 q1 s1 n1 r1 w => ?_
  refine W.bd s1 n1 w fun u2 S2 v2 H2 q2 s2 n2 r2 q => ?_
  split at q
  · rename_i k1 xs k2 ys hx hy
    obtain ⟨p1, rfl, m1⟩ := sq_of r1 hx
    obtain ⟨p2, rfl, m2⟩ := sq_of r2 hy
    obtain ⟨vs, c1, d1⟩ := m1 ρ H2 (Ex.of q2)
    obtain ⟨ws, c2, d2⟩ := m2 ρ H2 Ex.refl
    refine ⟨k1, k2, p1, p2, vs, ws, rfl, c1, c2, q _ _ (q1.trans q2) s2 ⟨fun ρ' H' S' i x ex hS' _ hi => ?_, fun ρ' H' S' i ex hS' _ hi => ?_⟩⟩
    · obtain ⟨x1, y1, hx1, hy1, rfl⟩ := zipP_get hi
      obtain ⟨vs', c1', d1'⟩ := m1 ρ' H' ((Ex.of q2).trans s2 ex)
      obtain ⟨ws', c2', d2'⟩ := m2 ρ' H' ex
      obtain ⟨v1, ev1, rv1⟩ := d1'.get hx1
      obtain ⟨w1, ew1, rw1⟩ := d2'.get hy1
      refine ⟨⟨vs', ws', v1, w1, c1', c2', ev1, ew1⟩, fun v H3 y => ?_⟩
      obtain ⟨T, x', y', rfl, hT, rfl, f1, f2⟩ := y
      have g1 := f1 vs' c1'
      have g2 := f2 ws' c2'
      rw [ev1] at g1
      rw [ew1] at g2
      cases g1
      cases g2
      exact ⟨Kp.new hT, hS'.new hT, .tup (.inl upd_same) (hS'.notin hT) (.cons (DR.kp (Kp.new hT) _ _ rv1) (.cons (DR.kp (Kp.new hT) _ _ rw1) .nil))⟩
    · obtain ⟨vs', c1', d1'⟩ := m1 ρ' H' ((Ex.of q2).trans s2 ex)
      obtain ⟨ws', c2', d2'⟩ := m2 ρ' H' ex
      refine ⟨vs', ws', c1', c2', ?_⟩
      rcases zipP_len hi with z | z
      · exact .inl (by rw [d1'.length]; exact z)
      · exact .inr (by rw [d2'.length]; exact z)
  · exact q.elim
end
end Ev

set_option Elab.async false
set_option linter.all false
set_option maxRecDepth 100000
set_option maxHeartbeats 1000000
namespace Ev
open PySem L2
open PyProof.Rows hiding St
def FlK (K : PySem.W.Frag) (sc : List Int) (E : XW) (ρ : Ad) (H : Hp) (S' : Sto) (D : Ends) : Fl → Prop
  | .nx σu' => ∀ σ' ρ' H', Ex ρ H ρ' H' → StR K ρ' H' S' → EnR K sc ρ' H' σu' σ' → D.nx σ' H'
  | .brk σu' => ∀ σ' ρ' H', Ex ρ H ρ' H' → StR K ρ' H' S' → EnR K sc ρ' H' σu' σ' → D.bk σ' H'
  | .cnt σu' => ∀ σ' ρ' H', Ex ρ H ρ' H' → StR K ρ' H' S' → EnR K sc ρ' H' σu' σ' → D.ct σ' H'
  | .ret u => ∀ v ρ' H', Ex ρ H ρ' H' → StR K ρ' H' S' → RU K sc ρ' H' u v → D.rt v H'
  | .exc c σu' => ∀ σ' ρ' H', Ex ρ H ρ' H' → StR K ρ' H' S' → EnR K sc ρ' H' σu' σ' → E c σ' H'
theorem FlK.weak {K : PySem.W.Frag} {sc : List Int} {E : XW} {ρ ρ1 : Ad} {H H1 : Hp} {S1 S' : Sto} {D : Ends} {fl : Fl} (a : Ex ρ H ρ1 H1) (hS : StR K ρ1 H1 S1) (h : FlK K sc E ρ H S' D fl) : FlK K sc E ρ1 H1 S' D fl := by
  cases fl with
  | nx s => exact fun σ' ρ' H' b s e => h σ' ρ' H' (a.trans hS b) s e
  | brk s => exact fun σ' ρ' H' b s e => h σ' ρ' H' (a.trans hS b) s e
  | cnt s => exact fun σ' ρ' H' b s e => h σ' ρ' H' (a.trans hS b) s e
  | ret u => exact fun σ' ρ' H' b s e => h σ' ρ' H' (a.trans hS b) s e
  | exc c u => exact fun σ' ρ' H' b s e => h σ' ρ' H' (a.trans hS b) s e
/-- a statement has no other end -/
abbrev NoE : Str → Sto → Prop := fun _ _ => False
abbrev FlW (K : PySem.W.Frag) (sc : List Int) (E : XW) (ρ : Ad) (H : Hp) (D : Ends) (r : R Fl) : Prop := r.wp (fun fl S' => FlK K sc E ρ H S' D fl) NoE
theorem FlW.weak {K : PySem.W.Frag} {sc : List Int} {E : XW} {ρ ρ1 : Ad} {H H1 : Hp} {S1 : Sto} {D : Ends} {r : R Fl} (a : Ex ρ H ρ1 H1) (hS : StR K ρ1 H1 S1) (h : FlW K sc E ρ H D r) : FlW K sc E ρ1 H1 D r := h.mono (fun _ _ q => q.weak a hS) fun _ _ z => z
def tS (K : PySem.W.Frag) (sc : List Int) (E : XW) (g : En → Sto → R Fl) : TS := fun D σ H => ∃ ρ σu S, StR K ρ H S ∧ EnR K sc ρ H σu σ ∧ FlW K sc E ρ H D (g σu S)
theorem W.sx {K : PySem.W.Frag} {sc : List Int} {E : XW} {α β : Type} {Rel : Ad → Hp → α → β → Prop} {g : En → Sto → R α} {f : α → Sto → R Fl} {ρ : Ad} {σu : En} {S : Sto} {σ : St} {H : Hp} {D : Ends} {Q : β → Hp → Prop} (hS : StR K ρ H S) (hE : EnR K sc ρ H σu σ)
    (w : FlW K sc E ρ H D ((g σu S).sx σu f)) (k : ∀ a S1 b H1, Kp ρ H H1 → StR K ρ H1 S1 → EnR K sc ρ H1 σu σ → Rel ρ H1 a b → FlW K sc E ρ H1 D (f a S1) → Q b H1) : W K sc E Rel g σ H Q :=
  ⟨ρ, σu, S, hS, hE, (wp_sx w).mono (fun a S1 p b H1 k1 s1 r1 => k a S1 b H1 k1 s1 (hE.kp k1) r1 (FlW.weak (Ex.of k1) s1 p)) fun c S1 p H' k' s' => p σ ρ H' (Ex.of k') s' (hE.kp k')⟩
section
variable {X : Cx} {sc : List Int} {E : XW} {a b c tg : Expr} {rest : List Expr} {ga gb gc : En → Sto → R U} {pos : Pos} {st : Stmt} {sts : List Stmt} {gs gr : En → Sto → R Fl}
theorem t_bad : PS X st (tS X.K sc E fun _ _ => .bad) := fun _ _ _ _ _ _ ⟨_, _, _, _, _, w⟩ => w.elim
theorem t_nil : PSs X [] (tS X.K sc E fun σ S => .ok (.nx σ) S) := PSs.imp pss_nil fun D σ H ⟨ρ, σu, S, hS, hE, q⟩ => q _ _ _ Ex.refl hS hE
def gSq (gs gr : En → Sto → R Fl) : En → Sto → R Fl := fun σ S => (gs σ S).bd fun fl S1 => match fl with
      | .nx σ2 => gr σ2 S1
      | .ret u => .ok (.ret u) S1
      | .brk σ2 => .ok (.brk σ2) S1
      | .cnt σ2 => .ok (.cnt σ2) S1
      | .exc c σ2 => .ok (.exc c σ2) S1
theorem t_cons (h1 : PS X st (tS X.K sc E gs)) (h2 : PSs X sts (tS X.K sc E gr)) : PSs X (st :: sts) (tS X.K sc E (gSq gs gr)) :=
  PSs.imp (pss_cons h1 h2) fun D σ H ⟨ρ, σu, S, hS, hE, w⟩ => by
    refine ⟨ρ, σu, S, hS, hE, (wp_bd w).mono (fun f1 S1 w => ?_) fun _ _ z => z⟩
    cases f1 with
    | nx s => exact fun σ' ρ' H' x s1 n1 => ⟨ρ', s, S1, s1, n1, FlW.weak x s1 w⟩
    | ret u => exact w
    | brk s => exact w
    | cnt s => exact w
    | exc c s => exact w
theorem t_pass : PS X (.Pass pos) (tS X.K sc E fun σ S => .ok (.nx σ) S) := PS.imp ps_pass fun D σ H ⟨ρ, σu, S, hS, hE, q⟩ => q _ _ _ Ex.refl hS hE
theorem t_brk : PS X (.Break pos) (tS X.K sc E fun σ S => .ok (.brk σ) S) := PS.imp ps_break fun D σ H ⟨ρ, σu, S, hS, hE, q⟩ => q _ _ _ Ex.refl hS hE
theorem t_cnt : PS X (.Continue pos) (tS X.K sc E fun σ S => .ok (.cnt σ) S) := PS.imp ps_continue fun D σ H ⟨ρ, σu, S, hS, hE, q⟩ => q _ _ _ Ex.refl hS hE
theorem t_retN : PS X (.Return none pos) (tS X.K sc E fun _ S => .ok (.ret (.d .none)) S) := PS.imp ps_retN fun D σ H ⟨ρ, σu, S, hS, hE, q⟩ => q _ _ _ Ex.refl hS DR.non
theorem t_ret (ha : PE X a (tE X.K sc E ga)) : PS X (.Return (some a) pos) (tS X.K sc E fun σ S => (ga σ S).sx σ fun u S1 => .ok (.ret u) S1) := PS.imp (ps_ret ha) fun D σ H ⟨ρ, σu, S, hS, hE, w⟩ =>
  W.sx hS hE w fun u S1 v H1 k1 s1 n1 r1 w => w _ _ _ Ex.refl s1 r1
theorem t_drop (ha : PE X a (tE X.K sc E ga)) (hs : swapsWith a none pos.line X.env = pure false) : PS X (.Expr a pos) (tS X.K sc E fun σ S => (ga σ S).sx σ fun _ S1 => .ok (.nx σ) S1) := PS.imp (ps_expr ha hs) fun D σ H ⟨ρ, σu, S, hS, hE, w⟩ =>
  W.sx hS hE w fun u S1 v H1 k1 s1 n1 r1 w => w _ _ _ Ex.refl s1 n1
def gAsg (g : G) (ga : En → Sto → R U) : En → Sto → R Fl := fun σ S => (ga σ S).sx σ fun u S1 => (R.of S1 (g.put u σ)).bd fun σ2 S2 => .ok (.nx σ2) S2
theorem asg_imp {g : G} : ∀ D σ H, tS X.K sc E (gAsg g ga) D σ H → tAsg (tE X.K sc E ga) (gPut X.K sc g) D σ H := fun D σ H ⟨ρ, σu, S, hS, hE, w⟩ => by
  refine W.sx hS hE w fun u S1 v H1 k1 s1 n1 r1 w => ?_
  obtain ⟨σ2, e5, w⟩ := of_bd w
  exact ⟨ρ, σu, u, σ2, n1, r1, e5, fun σ' hE' _ => w _ _ _ Ex.refl s1 hE'⟩
theorem t_asg {g : G} (ha : PE X a (tE X.K sc E ga)) (hg : PG X tg (gPut X.K sc g)) (hs : swapsWithSole [tg] a pos.line X.env = pure false) (hw : swappedStores [tg] a X.env = pure none) (h1 : (assignEach [tg] X.env).map (·.2) = [assign tg X.env]) :
    PS X (.Assign [tg] a pos) (tS X.K sc E (gAsg g ga)) := PS.imp (ps_asg ha hg hs hw h1) asg_imp
def gIfS (gt : En → Sto → R Bool) (gs gr : En → Sto → R Fl) : En → Sto → R Fl := fun σ S => (gt σ S).sx σ fun t S1 => if t then gs σ S1 else gr σ S1
theorem t_if {gt : En → Sto → R Bool} {sa sb : List Stmt} (hc : PT X c (tT X.K sc E gt)) (ha : PSs X sa (tS X.K sc E gs)) (hb : PSs X sb (tS X.K sc E gr)) : PS X (.If c sa sb pos) (tS X.K sc E (gIfS gt gs gr)) :=
  PS.imp (ps_if hc ha hb) fun D σ H ⟨ρ, σu, S, hS, hE, w⟩ => by
    refine W.sx hS hE w fun t S1 b H1 k1 s1 n1 r1 w => ?_
    cases r1
    cases t with
    | true => exact iteT ⟨ρ, σu, S1, s1, n1, w⟩
    | false => exact iteF ⟨ρ, σu, S1, s1, n1, w⟩
theorem t_whl {gt : En → Sto → R Bool} {sa : List Stmt} (hp : PassesOwn (model X.prog X.w) X.A X.env X.xe) (hc : PT X c (tT X.K sc E gt)) (ha : PSs X sa (tS X.K sc E gs)) (n : Nat) : PS X (.While c sa [] pos) (tS X.K sc E (whlL gt gs n)) :=
  PS.imp (ps_while hp hc ha) fun D σ H ⟨ρ, σu, S, hS, hE, w⟩ => by
    refine ⟨fun m σ' H' => ∃ ρ' σu' S1, StR X.K ρ' H' S1 ∧ EnR X.K sc ρ' H' σu' σ' ∧ FlW X.K sc E ρ' H' D (whlL gt gs m σu' S1), ⟨n, ρ, σu, S, hS, hE, w⟩, ?_⟩
    rintro m σ1 H1 ⟨ρ1, σu1, S1, s1, n1, w⟩
    cases m with
    | zero => exact w.elim
    | succ m =>
      unfold whlL at w
      refine W.sx s1 n1 w fun t S2 b H2 k2 s2 n2 r2 w => ?_
      cases r2
      cases t with
      | false => exact iteF (w _ _ _ Ex.refl s2 n2)
      | true =>
        have w : FlW X.K sc E ρ1 H2 D ((gs σu1 S2).bd _) := w
        refine iteT ⟨_, fun σ' H' h => ⟨m, Nat.lt_succ_self m, h⟩, ρ1, σu1, S2, s2, n2, (wp_bd w).mono (fun f2 S3 w => ?_) fun _ _ z => z⟩
        cases f2 with
        | nx s => exact fun σ' ρ' H' x s3 n3 => ⟨ρ', s, S3, s3, n3, FlW.weak x s3 w⟩
        | cnt s => exact fun σ' ρ' H' x s3 n3 => ⟨ρ', s, S3, s3, n3, FlW.weak x s3 w⟩
        | brk s => exact w
        | ret u => exact w
        | exc c s => exact w
def gFor (g : G) (gi : En → Sto → R (List PyData × Option Nat)) (gs : En → Sto → R Fl) : En → Sto → R Fl := fun σ S => (gi σ S).sx σ fun its S1 => forL gs g its.2 its.1 its.1 σ S1
theorem t_for {g : G} {gi : En → Sto → R (List PyData × Option Nat)} {iter : Expr} {sa : List Stmt} (hp : PassesOwn (model X.prog X.w) X.A X.env X.xe) (hc : X.calm = true) (hi : PI X tg iter (tI X.K sc E gi)) (hg : PG X tg (gPut X.K sc g)) (ha : PSs X sa (tS X.K sc E gs))
    (hs : ∀ x, foldedSetIterable iter X.env x = pure x) : PS X (.For tg iter sa [] pos) (tS X.K sc E (gFor g gi gs)) :=
  PS.imp (ps_for hp hc hi hg ha hs) fun D σ H ⟨ρ, σu, S, hS, hE, w⟩ => by
    refine W.sx hS hE w fun its S1 J H1 k1 s1 n1 it w => ?_
    obtain ⟨items, ck⟩ := its
    have w : FlW X.K sc E ρ H1 D (forL gs g ck items items σu S1) := w
    have it : ItOk X.K ρ H1 J items ck := it
    refine ⟨fun i m σ' H' => m = items.length - i ∧ i ≤ items.length ∧ ∃ ρ' σu' S2, Ex ρ H1 ρ' H' ∧ StR X.K ρ' H' S2 ∧ EnR X.K sc ρ' H' σu' σ' ∧ FlW X.K sc E ρ' H' D (forL gs g ck items (items.drop i) σu' S2),
      ⟨items.length, by simp, Nat.zero_le _, ρ, σu, S1, Ex.refl, s1, n1, w⟩, ?_⟩
    rintro i m σ2 H2 ⟨rfl, hi, ρ2, σu2, S2, x2, s2, n2, w⟩
    by_cases hlt : i < items.length
    · right
      have ei : items[i]? = some items[i] := List.getElem?_eq_getElem hlt
      rw [List.drop_eq_getElem_cons hlt] at w
      unfold forL at w
      split at w
      · rename_i hck
        split at w
        · exact w.elim
        · rename_i σ3 hput
          obtain ⟨jg, jy⟩ := it.go ρ2 H2 S2 i _ x2 s2 hck ei
          refine ⟨jg, fun σ' H' => items.length - (i + 1) = items.length - (i + 1) ∧ i + 1 ≤ items.length ∧ ∃ ρ' σu' S2, Ex ρ H1 ρ' H' ∧ StR X.K ρ' H' S2 ∧ EnR X.K sc ρ' H' σu' σ' ∧ FlW X.K sc E ρ' H' D (forL gs g ck items (items.drop (i + 1)) σu' S2),
            fun σ' H' h => ⟨_, by omega, h⟩, fun v H3 y => ?_⟩
          obtain ⟨k3, s3, r3⟩ := jy v H3 y
          have x3 : Ex ρ H1 ρ2 H3 := x2.trans s2 (Ex.of k3)
          have w := FlW.weak (Ex.of k3) s3 w
          refine ⟨ρ2, σu2, .d items[i], σ3, n2.kp k3, r3, hput, fun σ4 n4 _ => ⟨ρ2, σ3, S2, s3, n4, (wp_bd w).mono (fun f3 S3 w => ?_) fun _ _ z => z⟩⟩
          cases f3 with
          | nx s => exact fun σ' ρ' H' x s5 n5 => ⟨rfl, hlt, ρ', s, S3, x3.trans s3 x, s5, n5, FlW.weak x s5 w⟩
          | cnt s => exact fun σ' ρ' H' x s5 n5 => ⟨rfl, hlt, ρ', s, S3, x3.trans s3 x, s5, n5, FlW.weak x s5 w⟩
          | brk s => exact w
          | ret u => exact w
          | exc c s => exact w
      · exact w.elim
    · left
      have ei : i = items.length := by omega
      subst ei
      rw [List.drop_length] at w
      unfold forL at w
      split at w
      · rename_i hck
        exact ⟨it.stop ρ2 H2 _ _ x2 s2 hck (Nat.le_refl _), w _ _ _ Ex.refl s2 n2⟩
      · exact w.elim
/-! ### name += e, of ints -/
def gAug (i : Nat) (o : Bop) (ga : En → Sto → R U) : En → Sto → R Fl := fun σ S => match σ[i]? with
      | some (some (.d (.int x))) => (ga σ S).sx σ fun u S1 => match o, u with
        | .add, .d (.int y) => .ok (.nx (σ.set i (some (.d (.int (x + y)))))) S1
        | .sub, .d (.int y) => .ok (.nx (σ.set i (some (.d (.int (x - y)))))) S1
        | _, _ => .bad
      | _ => .bad
theorem t_aug {i : Nat} {x : Str} {o : Bop} {pos' : Pos} (hN : X.N.Nodup) (hi : X.N[i]? = some x) (hx : Loc X.env.scope x) (hf : X.fn x = true ∨ X.env.scope.names.lookup x = some .local) (ha : PE X a (tE X.K sc E ga)) (ho : o = .add ∨ o = .sub) :
    PS X (.AugAssign (.Name x pos') o.op a pos) (tS X.K sc E (gAug i o ga)) := by
  have fin : ∀ (f : Int → Int → Int) (fu : U → Sto → R Fl) (D : Ends) (σ : L2.St) (H : Hp) (ρ : Ad) (σu : En) (S : Sto) (z : Int), StR X.K ρ H S → EnR X.K sc ρ H σu σ → σu[i]? = some (some (.d (.int z))) → FlW X.K sc E ρ H D ((ga σu S).sx σu fu) →
      (∀ u S1 ρ H D, FlW X.K sc E ρ H D (fu u S1) → ∃ y, u = .d (.int y) ∧ FlK X.K sc E ρ H S1 D (.nx (σu.set i (some (.d (.int (f z y))))))) → tAug i (tE X.K sc E ga) (ipI f) D σ H := fun f fu D σ H ρ σu S z hS hE hz w hk => by
    obtain ⟨v, ev, rv⟩ := hE.vs i _ hz
    cases rv
    refine ⟨_, ev, W.sx hS hE w fun u S1 w' H1 k1 s1 n1 r1 w => ?_⟩
    obtain ⟨y, rfl, q⟩ := hk _ _ _ _ _ w
    cases r1
    exact ⟨_, _, rfl, rfl, q _ _ _ Ex.refl s1 (n1.set i (show RU X.K sc ρ H1 (.d (.int _)) _ from DR.int _))⟩
  rcases ho with rfl | rfl
  · refine PS.imp (ps_aug hN hi hx ha ip_add hf) fun D σ H ⟨ρ, σu, S, hS, hE, w⟩ => ?_
    unfold gAug at w
    split at w
    · rename_i z hz
      refine fin _ _ D σ H ρ σu S z hS hE hz w fun u S1 ρ H D w => ?_
      cases u with
      | d y =>
        cases y with
        | int y => exact ⟨y, rfl, w⟩
        | _ => exact w.elim
      | _ => exact w.elim
    · exact w.elim
  · refine PS.imp (ps_aug hN hi hx ha ip_sub hf) fun D σ H ⟨ρ, σu, S, hS, hE, w⟩ => ?_
    unfold gAug at w
    split at w
    · rename_i z hz
      refine fin _ _ D σ H ρ σu S z hS hE hz w fun u S1 ρ H D w => ?_
      cases u with
      | d y =>
        cases y with
        | int y => exact ⟨y, rfl, w⟩
        | _ => exact w.elim
      | _ => exact w.elim
    · exact w.elim
/-! ### name = [..], a list that is changed later -/
def gCell (i : Nat) (gas : En → Sto → R (List U)) : En → Sto → R Fl := fun σ S => (gas σ S).sx σ fun us S1 => match us.mapM asD with
      | some xs => if xs.length ≤ sizeLine then .ok (.nx (σ.set i (some (.c S1.length)))) (S1 ++ [xs]) else .bad
      | none => .bad
theorem t_cell {i : Nat} {x : Str} {gas : En → Sto → R (List U)} {pos' pos2 : Pos} (hN : X.N.Nodup) (hi : X.N[i]? = some x) (hx : Loc X.env.scope x) (hf : X.fn x = true ∨ X.env.scope.names.lookup x = some .local) (ha : PA X rest (tA X.K sc E gas)) :
    PS X (.Assign [.Name x pos'] (.List rest pos2) pos) (tS X.K sc E (gCell i gas)) :=
  PS.imp (ps_set hN hi hx (pe_lst ha) rfl hf) fun D σ H ⟨ρ, σu, S, hS, hE, w⟩ => by
    refine W.sx hS hE w fun us S1 vs H1 k1 s1 n1 r1 q => ?_
    split at q
    · rename_i xs hx
      split at q
      · rename_i hl
        have r2 := mapM_asD hx r1
        refine ⟨by rw [r2.length]; exact hl, fun p hp => ?_⟩
        have nw : Ex ρ H1 ⟨ρ.c ++ [p], ρ.x⟩ (upd H1 p (.lst vs)) := ⟨⟨[p], rfl, fun b hb => by rw [List.mem_singleton.mp hb]; exact hp⟩, ⟨[], by simp, fun p hp => by cases hp⟩, Kp.new hp⟩
        refine q _ ⟨ρ.c ++ [p], ρ.x⟩ _ nw ?_ ((n1.ext nw).set i ⟨p, ?_, rfl⟩)
        · refine ⟨by rw [List.length_append, List.length_append, s1.len]; rfl, ?_, fun n ys e => ?_, fun a ha => ?_⟩
          · rw [List.nodup_append]
            refine ⟨s1.nd, by simp, fun a ha b hb => ?_⟩
            rw [List.mem_singleton.mp hb]
            exact fun z => s1.notinc hp (z ▸ ha)
          · by_cases hn : n < S1.length
            · rw [List.getElem?_append_left hn] at e
              obtain ⟨a, ws, ea, ha, qa⟩ := s1.cs n ys e
              exact ⟨a, ws, by rw [List.getElem?_append_left (by rw [s1.len]; exact hn)]; exact ea, by rw [upd_ne (ne_of_none ha hp)]; exact ha, qa.ext nw⟩
            · have hn' : n = S1.length := by
                have := (List.getElem?_eq_some_iff.mp e).1
                rw [List.length_append] at this
                simp at this
                omega
              subst hn'
              rw [List.getElem?_append_right (Nat.le_refl _), Nat.sub_self] at e
              cases e
              exact ⟨p, vs, by rw [List.getElem?_append_right (by rw [s1.len]; exact Nat.le_refl _), s1.len, Nat.sub_self]; rfl, upd_same, r2.ext nw⟩
          · obtain ⟨h1, o, h2⟩ := s1.hid a ha
            refine ⟨fun z => ?_, o, by rw [upd_ne (ne_of_none h2 hp)]; exact h2⟩
            rcases List.mem_append.mp z with z | z
            · exact h1 z
            · rw [List.mem_singleton.mp z] at h2
              rw [hp] at h2
              cases h2
        · rw [← s1.len, List.getElem?_append_right (Nat.le_refl _), Nat.sub_self]
          rfl
      · exact q.elim
    · exact q.elim
/-! ### name.append(e) -/
def gApp (i : Nat) (ga : En → Sto → R U) : En → Sto → R Fl := fun σ S => match σ[i]? with
      | some (some (.c n)) => (ga σ S).sx σ fun u S1 => match asD u, S1[n]? with
        | some y, some xs => if xs.length < sizeLine then .ok (.nx σ) (S1.set n (xs ++ [y])) else .bad
        | _, _ => .bad
      | _ => .bad
theorem t_app {i : Nat} {x : Str} {px apos cpos : Pos} (hN : X.N[i]? = some x) (hv : Vis X.env.scope x) (hd : (x == ("__debug__" : Str)) = false) (hcd : (x == ("__classdict__" : Str)) = false) (ha : PE X a (tE X.K sc E ga)) (hn : NoStar X [a]) (hline : (apos.endLine == cpos.line) = true) :
    PS X (.Expr (.Call (.Attribute (.Name x px) "append" apos) [a] [] cpos) pos) (tS X.K sc E (gApp i ga)) := by
  have h0 : starEach [a] X.env = [(false, eval a X.env)] := hn a List.mem_cons_self []
  refine PS.imp (ps_expr (pe_bm PySem.F.plainAttrs_list PySem.F.slot_list_append PySem.F.type_list_append mt_append (pe_var hN hv hd hcd) (pa_cons ha pa_nil h0) rfl (by rw [h0]; rfl) hline h0 rfl) rfl) fun D σ H ⟨ρ, σu, S, hS, hE, w⟩ => ?_
  unfold gApp at w
  split at w
  · rename_i n hn
    obtain ⟨v, ev, rv⟩ := hE.vs i _ hn
    obtain ⟨b, eb, rfl⟩ := rv
    have hb : ∃ vs, H b = some (.lst vs) := hS.trk (List.mem_of_getElem? eb)
    obtain ⟨vs0, hb⟩ := hb
    refine ⟨_, ev, .inl ⟨rfl, _, SqL.of hb⟩, ?_⟩
    refine W.sx hS hE w fun u S1 yv H1 k1 s1 n1 r1 q => ?_
    split at q
    · rename_i y xs hy hxs
      split at q
      · rename_i hl
        obtain ⟨b', vs, eb', hb', qb⟩ := s1.cs n xs hxs
        rw [eb] at eb'
        cases eb'
        have ry : DR X.K ρ H1 yv y := by
          cases u with
          | d z => cases hy; exact r1
          | c n => cases hy
          | s => cases hy
        have bc : b ∈ ρ.c := List.mem_of_getElem? eb
        have bx : b ∈ ρ.ex := Ad.mem.mpr (.inl bc)
        have kx := rd_upd (H := H1) bx (.lst (vs ++ [yv]))
        refine ⟨_, _, _, rfl, rfl, hb', by rw [qb.length]; exact hl, ?_⟩
        refine q _ ρ _ (Ex.of fun a o na ea => ?_) ?_ ⟨n1.len, fun j w' ew => ?_⟩
        · have ne : a ≠ b := fun z => na (by rw [z]; exact bc)
          rw [upd_ne ne]
          exact ea
        · refine ⟨by rw [List.length_set]; exact s1.len, s1.nd, fun m ys em => ?_, fun a ha' => ?_⟩
          · by_cases hm : n = m
            · subst hm
              rw [List.getElem?_set_self (List.getElem?_eq_some_iff.mp hxs).1] at em
              cases em
              exact ⟨b, _, eb, upd_same, DRs.kx kx _ _ (qb.app (.cons ry .nil))⟩
            · rw [List.getElem?_set_ne hm] at em
              obtain ⟨a2, ws, ea2, ha2, qa2⟩ := s1.cs m ys em
              have ne : a2 ≠ b := fun z => hm (nd_ix s1.nd eb (z ▸ ea2))
              exact ⟨a2, ws, ea2, by rw [upd_ne ne]; exact ha2, DRs.kx kx _ _ qa2⟩
          · obtain ⟨h1, o, h2⟩ := s1.hid a ha'
            have ne : a ≠ b := fun z => h1 (by rw [z]; exact bc)
            exact ⟨h1, o, by rw [upd_ne ne]; exact h2⟩
        · obtain ⟨w2, ew2, rw2⟩ := n1.vs j w' ew
          refine ⟨w2, ew2, ?_⟩
          cases w' with
          | d z => exact DR.kx kx z w2 rw2
          | c m => exact rw2
          | s =>
            obtain ⟨a2, e2, ⟨na, ra⟩ | ra⟩ := rw2
            · exact ⟨a2, e2, .inl ⟨na, kx _ _ na ra⟩⟩
            · exact ⟨a2, e2, .inr ra⟩
      · exact q.elim
    · exact q.elim
  · exact w.elim
end
end Ev

set_option Elab.async false
set_option linter.all false
set_option maxRecDepth 100000
set_option maxHeartbeats 2000000
/-! Exceptions of the text's own classes: raised, passed on by defs, caught. -/
namespace Ev
open PySem L2
open PyProof.Rows hiding St
abbrev bmV : List Value := [.type "ValueError", .type "Exception", .type "BaseException", .type "object"]
abbrev idV : String := "ValueError.__new__"
structure ClsOk (K : PySem.W.Frag) (c : Str) (C : Addr) : Prop where
  ns : PySem.W.nsIn K mainGlobals c = some (some (.ref C))
  ex : PySem.W.excIn K C bmV idV = true
theorem cls_obj {K : PySem.W.Frag} {h : Heap} {C : Addr} (X : K.In h) (q : PySem.W.excIn K C bmV idV = true) :
    ∃ bm N nm qn bs hc sn sb ab cl dd k0 k1 k2 k3 k5 mN, h.get? C = some (excClassObj nm qn C N bs bm hc sn sb ab cl dd k0 k1 k2 k3 k5 idV) ∧ h.Ns N mN ∧ mN "__init__" = none ∧ OwnTail h bmV bm := by
  unfold PySem.W.excIn at q
  split at q
  · rename_i dd cd sl ho
    split at q
    · rename_i C1 bm k0 k1 k2 k3 w k5 e1 e2
      rw [Bool.and_eq_true, Bool.and_eq_true, Bool.and_eq_true, Bool.and_eq_true, Bool.and_eq_true] at q
      obtain ⟨⟨⟨⟨⟨q1, q2⟩, q3⟩, q4⟩, q5⟩, q6⟩ := q
      have z1 := beq_iff_eq.mp q1
      have z2 := beq_iff_eq.mp q2
      have z6 := beq_iff_eq.mp q6
      rw [Bool.not_eq_true'] at q3
      subst z1 z2
      obtain ⟨c1, c2, c3, c4, c5, c6, c7, c8, c9, c10, c11⟩ := cd
      simp only at e1 q3 q5 z6
      subst e1 q3
      have e3 : sl = #[k0, k1, k2, k3, some (.builtin idV), k5] := by
        cases sl
        simp only at e2
        rw [e2]
      subst e3
      refine ⟨bm, c4, c1, c5, c2, c6, c7, c8, c9, c10, dd, k0, k1, k2, k3, k5, h.nsMap c4, ?_, ?_, ?_, ?_⟩
      · exact X _ _ ho
      · exact .of_isNs (PySem.W.isNs_of_in X q5)
      · exact PySem.W.nsMap_none_of_in X q5 z6
      · exact PySem.W.tail_of_in X q4
    · cases q
  · cases q
/-! ### in flight -/
def Raw (h : Heap) (C a : Addr) : Prop := ∃ t, h.get? a = some { cls := .ref C, data := .fields #[.ref t, .none, .none, .none, .bool false, .none] }
structure Air (h : Heap) (C a T : Addr) : Prop where
  it : ∃ oe vs oT ts a0, h.get? a = some oe ∧ oe.cls = .ref C ∧ oe.data = .fields vs ∧ vs[0]? = some a0 ∧ vs[1]? = some (.ref T) ∧ T ≠ a ∧ h.get? T = some oT ∧ oT.data = .fields ts ∧ ts[3]? = some .none
structure AirIn (X : Cx) (H : Hp) (s : Shared) (C a T : Addr) : Prop where
  air : Air s.heap C a T
  ha : H a = none
  hT : H T = none
  fa : X.s_0.heap.get? a = none
  fT : X.s_0.heap.get? T = none
  pa : ∀ p ∈ X.pn, p.1 ≠ a ∧ p.1 ≠ T
/-- what is wanted of exceptions in a context -/
def XeAir (X : Cx) (E : XW) : Prop := ∀ σ H s c C a T, Inv X [] σ H s → ClsOk X.K c C → AirIn X H s C a T → E c σ H → X.xe (.ref a) s
def XeRaw (X : Cx) (E : XW) : Prop := ∀ σ H s c C a, Inv X [] σ H s → ClsOk X.K c C → Raw s.heap C a → H a = none → X.s_0.heap.get? a = none → E c σ H → X.xe (.ref a) s
/-- how an exception lies behind a call -/
def CXm (K : PySem.W.Frag) (P : Program) (w : World) : CXT := fun outer H s E e s' => ∃ a T c C H', e = .ref a ∧ ClsOk K c C ∧ s'.os = s.os ∧ AllBare s'.gens ∧ Un (frs outer) [] H H' s.heap s'.heap ∧ HOk P w H' s'.heap ∧
  Air s'.heap C a T ∧ H' a = none ∧ H' T = none ∧ s.heap.get? a = none ∧ s.heap.get? T = none ∧ E (cv c) none H'
theorem hok_has {P : Program} {w : World} {H : Hp} {h : Heap} (k : HOk P w H h) {b : Addr} (n : h.get? b = none) : H b = none := by
  cases e : H b with
  | none => rfl
  | some o =>
    have x := k b o e
    have : ∀ {o : HO}, ObjOk P w H h b o → ∃ u, h.get? b = some u := by
      intro o
      induction o with
      | lst xs => rintro ⟨_, _, _, _, e⟩; exact ⟨_, e⟩
      | tup xs => rintro ⟨_, _, _, o, e, _⟩; exact ⟨_, e⟩
      | dK kvs => rintro ⟨_, _, _, _, o, _, _, e, _⟩; exact ⟨_, e⟩
      | dT kvs => rintro ⟨_, _, _, _, o, _, _, e, _⟩; exact ⟨_, e⟩
      | set S n => rintro ⟨_, _, _, _, e, _⟩; exact ⟨_, e⟩
      | ins C dx fs => rintro ⟨_, _, _, e, _⟩; exact ⟨_, e⟩
      | own b => rintro ⟨o, e⟩; exact ⟨_, e⟩
      | xd fs => rintro ⟨_, ⟨o, _, _, e, _⟩, _⟩; exact ⟨_, e⟩
      | rng lo hi => rintro ⟨_, _, _, e⟩; exact ⟨_, e⟩
      | frz o u _ => rintro ⟨e, _⟩; exact ⟨_, e⟩
      | tbl ps => intro e; exact ⟨_, e⟩
      | met f x => intro e; exact ⟨_, e⟩
      | ext f => rintro ⟨_, ⟨o, e⟩, _⟩; exact ⟨_, e⟩
    obtain ⟨u, hu⟩ := this x
    rw [n] at hu
    cases hu
/-- the frames of a stack -/
theorem frs_mem {l : List Env} {env : Env} {a : Addr} (h : env ∈ l) (e : env.frame = some a) : a ∈ frs l := List.mem_filterMap.mpr ⟨env, h, e⟩
section
variable {X : Cx} {σ : L2.St} {H : Hp} {s : Shared} {C a T : Addr} {h' : Heap}
/-- what is left alone where an exception is noted -/
structure Left (l : List Env) (ts : List Addr) (h h' : Heap) : Prop where
  keep : ∀ b o, h.get? b = some o → b ∉ frs l → b ∉ ts → h'.get? b = some o
  slot : h.UpToSlots h'
theorem Left.of {l : List Env} {ts : List Addr} {h h' : Heap} (k : (PySem.W.hideAll h (frs l ++ ts)).StaysIn h') (u : h.UpToSlots h') : Left l ts h h' :=
  ⟨fun b o e n m => k b o (PySem.W.hideAll_get _ e fun z => (List.mem_append.mp z).elim n m), u⟩
theorem hide_frames {base h : Heap} {l : List Env} (F : h.FunFrames base l) (ts : List Addr) : h.FunFrames (PySem.W.hideAll h (frs l ++ ts)) l :=
  PySem.W.funFrames_hide F fun env he a e => List.mem_append_left _ (frs_mem he e)
/-- the invariant behind it -/
theorem inv_left (I : Inv X [] σ H s) {ts : List Addr} (L : Left X.stack ts s.heap h') (hx : X.ex = []) (h1 : ∀ b ∈ ts, H b = none) (h2 : ∀ b ∈ ts, X.s_0.heap.get? b = none) (h3 : ∀ b ∈ ts, ∀ p ∈ X.pn, p.1 ≠ b)
    (h4 : ∀ b ∈ ts, ∀ o, s.heap.get? b = some o → ∃ vs, o.data = .fields vs) : Inv X [] σ H { s with heap := h' } := by
  have stk := I.stack
  have frd : ∀ b ∈ frs X.stack, ∃ o, s.heap.get? b = some o ∧ ∀ vs, o.data ≠ .fields vs := fun b hb => (stk.mem hb).2
  have any : ∀ b o, s.heap.get? b = some o → b ∉ ts → ∃ sl, h'.get? b = some { o with slots := sl } := fun b o e n => by
    by_cases hf : b ∈ frs X.stack
    · obtain ⟨o', e', d⟩ := frd b hf
      rw [e] at e'
      cases e'
      exact L.slot b o e d
    · exact ⟨o.slots, L.keep b o e hf n⟩
  have lc : X.env.locals ∉ ts := fun z => by
    obtain ⟨m, ⟨o, es, ep, ho, hd, _⟩, _⟩ := I.loc
    obtain ⟨vs, e⟩ := h4 _ z _ ho
    rw [hd] at e
    cases e
  have cel : ∀ x c, X.env.cells.lookup x = some c → ∀ v, s.heap.IsCell c v → h'.IsCell c v := fun x c ex v ⟨o, ho, hd⟩ => by
    have nt : c ∉ ts := fun z => by
      obtain ⟨vs, e⟩ := h4 _ z _ ho
      rw [hd] at e
      cases e
    obtain ⟨sl, e⟩ := any c o ho nt
    exact ⟨_, e, hd⟩
  refine ⟨I.ok, I.os, I.bare, ⟨fun b o e n hb hx' => ?_, fun b o e n hb hx' => ?_, I.base.free, fun b o e hx' => ?_, I.base.tups, I.base.frzs, I.base.tbls⟩, ?_, fun x c e => ?_, I.free, I.freeC, fun p hp => ?_, fun b o e => ?_, I.len⟩
  · have nt : b ∉ ts := fun z => by rw [h2 b z] at e; cases e
    refine L.keep b o (I.base.keep b o e n hb hx') (fun z => ?_) nt
    rcases List.mem_cons.mp (I.stkSub b z) with z | z
    · exact absurd (Nat.lt_of_lt_of_le (Heap.lt_size e) I.ok.above) (by rw [z]; exact Nat.lt_irrefl _)
    · exact hb z
  · have nt : b ∉ ts := fun z => by rw [h2 b z] at e; cases e
    obtain ⟨sl, e1⟩ := I.base.slot b o e n hb hx'
    obtain ⟨sl2, e2⟩ := any b _ e1 nt
    exact ⟨sl2, e2⟩
  · have nt : b ∉ ts := fun z => by rw [h2 b z] at e; cases e
    obtain ⟨o1, e1⟩ := I.base.there b o e hx'
    obtain ⟨sl2, e2⟩ := any b _ e1 nt
    exact ⟨_, e2⟩
  · obtain ⟨m, hn, hl⟩ := I.loc
    obtain ⟨o, es, ep, ho, hd, r⟩ := id hn
    obtain ⟨sl, e⟩ := any _ o ho lc
    refine ⟨m, ⟨_, es, ep, e, hd, r⟩, fun i x v e1 e2 e3 => ?_⟩
    obtain ⟨u, r, l⟩ := hl i x v e1 e2 e3
    refine ⟨u, r, ?_⟩
    rcases l with l | ⟨k, c, e, z⟩
    · exact .inl l
    · exact .inr ⟨k, c, e, cel x c e _ z⟩
  · obtain ⟨v, z⟩ := I.cell x c e
    exact ⟨v, cel x c e v z⟩
  · have hp' : p ∈ X.pn := by simpa using hp
    obtain ⟨e, n, ne, nf, d⟩ := I.pin p hp
    refine ⟨L.keep _ _ e (fun z => ?_) (fun z => h3 _ z p hp' rfl), n, ne, nf, d⟩
    rcases List.mem_cons.mp (I.stkSub _ z) with z | z
    · exact ne z
    · exact nf z
  · refine (I.hok b o e).stay (fun c u hc q => ?_) (fun _ q => q) fun _ _ q => q
    have hc' : H c ≠ none := by
      rcases hc with z | z
      · rw [z, e]; exact fun z => by cases z
      · rw [z]; exact fun z => by cases z
    exact L.keep c u q (fun z => hc' (I.stkFree c z)) fun z => hc' (h1 c z)
/-- a def's end by an exception -/
theorem left_cx (I : Inv X [] σ H s) {ts : List Addr} {c : Str} {a0 : Value} {E : XK} (L : Heap.LeftW (PySem.W.hideAll s.heap (frs X.stack ++ ts)) X.stack a (.ref C) a0 s.heap h') (hx : X.ex = []) (hst : ∀ b ∈ X.fs, b ∈ frs X.stack) (h1 : ∀ b ∈ ts, H b = none) (h2 : ∀ b ∈ ts, X.s_0.heap.get? b = none)
    (h4 : ∀ b ∈ ts, ∀ o, s.heap.get? b = some o → ∃ vs, o.data = .fields vs) (hpn : X.pn = []) (ha : a ∈ ts) (hc : ClsOk X.K c C) (hE : E (cv c) none H) : CXm X.K X.prog X.w X.outer X.H_0 X.s_0 E (.ref a) { s with heap := h' } := by
  obtain ⟨k1, k2, ⟨oe, vs, T, oT, us, he, ⟨hcl, h0⟩, hd, e1, hnT, hTe, hT, hdT, e3⟩, k4⟩ := L
  have J := inv_left I (Left.of k1 k4) hx h1 h2 (fun b _ p hp => by rw [hpn] at hp; cases hp) h4
  have fr : T ∉ frs X.stack := fun z => by
    obtain ⟨_, o, ho, d⟩ := k2.mem z
    rw [hT] at ho
    cases ho
    exact d _ hdT
  have old : T ∈ ts ∨ s.heap.get? T = none := by
    by_cases z : T ∈ ts
    · exact .inl z
    · right
      cases q : s.heap.get? T with
      | none => rfl
      | some o =>
        have := PySem.W.hideAll_get (frs X.stack ++ ts) q (fun w => (List.mem_append.mp w).elim fr z)
        rw [hnT] at this
        cases this
  refine ⟨a, T, c, C, H, rfl, hc, I.os, I.bare, ?_, J.hok, ⟨oe, vs, oT, us, a0, he, hcl, hd, h0, e1, hTe, hT, hdT, e3⟩, h1 a ha, ?_, h2 a ha, ?_, hE⟩
  · have := J.base
    rw [hx] at this
    exact this
  · rcases old with z | z
    · exact h1 T z
    · exact hok_has I.hok z
  · rcases old with z | z
    · exact h2 T z
    · cases q : X.s_0.heap.get? T with
      | none => rfl
      | some o =>
        obtain ⟨o', e'⟩ := I.base.there T o q (by rw [hx]; simp)
        rw [z] at e'
        cases e'
end
/-! ### defs -/
section
variable {P : Program} {w : World} {K : PySem.W.Frag} {mg : Str → Option Value} {base : Heap} {N : List Str} {qual : Str} {scope : Scope} {f : Addr} {cdv : Value} {A : Around} {outer : List Env} {s0 : Shared} {H0 : Hp} {E : XK}
theorem air_fn : XeAir (cxOf (CXm K P w) P w K mg base N qual scope f cdv A outer s0 H0 E) (fun c _ H' => E (cv c) none H') := by
  intro σ H s c C a T I hc hA hE
  obtain ⟨oe, vs, oT, ts, a0, e1, e2, e3, e4, e5, e6, e7, e8, e9⟩ := hA.air.it
  have mem : ∀ b ∈ [a, T], b = a ∨ b = T := fun b hb => by simpa using hb
  refine wpAny_leaving_nextW (base := PySem.W.hideAll s.heap (frs (envOfC qual scope s0.heap.objs.size f cdv :: outer) ++ [a, T])) I.ok.frames (hide_frames I.stack _) rfl ⟨oe, vs, T, oT, ts, e1, ⟨e2, e4⟩, e3, e5, ?_, e6, e7, e8, e9⟩ ?_ ?_ fun h' L => ?_
  · exact PySem.W.hideAll_none _ (List.mem_append_right _ (by simp))
  · exact fun b o e => PySem.W.of_hideAll _ e
  · exact PySem.W.hideAll_none _ (List.mem_append_right _ (by simp))
  · refine left_cx (X := cxOf (CXm K P w) P w K mg base N qual scope f cdv A outer s0 H0 E) I L rfl (fun b hb => ?_) (fun b hb => ?_) (fun b hb => ?_) (fun b hb o e => ?_) rfl (by simp) hc hE
    · obtain ⟨env, h1, h2⟩ := List.mem_filterMap.mp hb
      exact frs_mem (List.mem_cons_of_mem _ h1) h2
    · rcases mem b hb with rfl | rfl
      · exact hA.ha
      · exact hA.hT
    · rcases mem b hb with rfl | rfl
      · exact hA.fa
      · exact hA.fT
    · rcases mem b hb with rfl | rfl
      · rw [e1] at e; cases e; exact ⟨_, e3⟩
      · rw [e7] at e; cases e; exact ⟨_, e8⟩
theorem raw_fn : XeRaw (cxOf (CXm K P w) P w K mg base N qual scope f cdv A outer s0 H0 E) (fun c _ H' => E (cv c) none H') := by
  intro σ H s c C a I hc hr h1 h2 hE
  obtain ⟨t, e1⟩ := hr
  refine wpAny_leaving_firstW (base := PySem.W.hideAll s.heap (frs (envOfC qual scope s0.heap.objs.size f cdv :: outer) ++ [a])) (a0 := .ref t) I.ok.frames (hide_frames I.stack _) rfl e1 ?_ ?_ rfl rfl rfl fun h' L => ?_
  · exact fun b o e => PySem.W.of_hideAll _ e
  · exact PySem.W.hideAll_none _ (List.mem_append_right _ (by simp))
  · refine left_cx (X := cxOf (CXm K P w) P w K mg base N qual scope f cdv A outer s0 H0 E) I L rfl (fun b hb => ?_) (fun b hb => ?_) (fun b hb => ?_) (fun b hb o e => ?_) rfl (by simp) hc hE
    · obtain ⟨env, h1, h2⟩ := List.mem_filterMap.mp hb
      exact frs_mem (List.mem_cons_of_mem _ h1) h2
    · rw [List.mem_singleton.mp hb]; exact h1
    · rw [List.mem_singleton.mp hb]; exact h2
    · rw [List.mem_singleton.mp hb, e1] at e
      cases e
      exact ⟨_, rfl⟩
end
theorem inv_drop {X : Cx} {pins : List (Addr × Obj)} {σ : L2.St} {H : Hp} {s : Shared} (I : Inv X pins σ H s) : Inv X [] σ H s :=
  ⟨I.ok, I.os, I.bare, I.base, I.loc, I.cell, I.free, I.freeC, fun p hp => I.pin p (List.mem_append_left _ (by simpa using hp)), I.hok, I.len⟩
/-! ### calls -/
section
variable {X : Cx} {sc : List Int} {E : XW} {a b c : Expr} {rest : List Expr} {ga gb gc : En → Sto → R U} {pos : Pos}
theorem call_go {g : List U → Sto → R U} {k : Nat} {f : Addr} {fd : FuncData} {ps : List Str} (G : FnOk X.prog X.w X.K X.mg X.base (CXm X.K X.prog X.w) k f fd ps (spOf X.K sc ps.length g)) (hr : Room k X.A) (hb : Binds X.K fd ps []) (hx : XeAir X E) (hex : X.ex = [] ∨ E = noX)
    (hlen : ∀ us S (P : U → Sto → Prop) (Px : Str → Sto → Prop), (g us S).wp P Px → us.length = ps.length)
    {pins : List (Addr × Obj)} {σ : L2.St} {H H1 : Hp} {s1 : Shared} {us : List Value} {vs : List V} {Q : V → Hp → Prop} {ρ : Ad} {xs : List U} {S1 : Sto} (I1 : Inv X pins σ H1 s1) (r : Vals vs us) (k1 : Kp ρ H H1) (t1 : StR X.K ρ H1 S1) (r1 : RUs X.K sc ρ H1 xs vs)
    (w : (g xs S1).wp (fun a S' => ∀ b H', Kp ρ H H' → StR X.K ρ H' S' → RU X.K sc ρ H' a b → Q b H') (PxH X.K E ρ H σ)) : wpAny (model X.prog X.w) X.A (call (.ref f) us) (EP X pins σ Q) X.xe s1 := by
  have hl : xs.length = ps.length := hlen _ _ _ _ w
  have hl2 : vs.length = ps.length := by rw [← RUs.length r1]; exact hl
  have sp : spOf X.K sc ps.length g vs H1 Q (fun v _ H' => ∃ c, v = cv c ∧ E c σ H') := by
    refine ⟨hl2, ρ, xs, S1, t1, r1, w.mono (fun u S' p v H' k' => p v H' (k1.trans k')) fun c S' p H' k' s' => ⟨c, rfl, p H' (k1.trans k') s'⟩⟩
  have hb2 := hb s1 us I1.kIn (by rw [List.append_nil, ← r.length]; exact hl2)
  rw [List.append_nil] at hb2
  refine wpAny_call (codeAny_mono (G.run X.A X.stack s1 H1 ⟨us, []⟩ us vs Q _ hr I1.env0 hb2 r sp) fun res s' hq => ?_)
  cases res with
  | ok fl =>
    cases fl with
    | ret u => exact I1.after hq
    | next => exact False.elim hq
    | brk => exact False.elim hq
    | cont => exact False.elim hq
  | error e =>
    obtain ⟨a, T, c, C, H', rfl, hc, os, bare, un, hok, air, ha, hT, fa, fT, c', ec, hE⟩ := hq
    have ec' : c = c' := by injection ec
    subst ec'
    rcases hex with hex | hex
    · obtain ⟨hh, g', d', t', os'⟩ := s'
      have os2 : os' = s1.os := os
      subst os2
      have I2 : Inv X pins σ H' ⟨hh, g', d', t', s1.os⟩ := I1.call (h' := hh) (g' := g') (d' := d') (t' := t') (ch := []) un hok bare (fun b z => absurd z (by simp))
      have old : ∀ b, s1.heap.get? b = none → X.s_0.heap.get? b = none := fun b z => by
        cases q : X.s_0.heap.get? b with
        | none => rfl
        | some o =>
          obtain ⟨o', e'⟩ := I1.base.there b o q (by rw [hex]; simp)
          rw [z] at e'
          cases e'
      refine hx σ H' _ c C a T (inv_drop I2) hc ⟨air, ha, hT, old a fa, old T fT, fun p hp => ?_⟩ hE
      obtain ⟨e, _⟩ := I1.pin p (List.mem_append_left _ hp)
      refine ⟨fun z => ?_, fun z => ?_⟩
      · rw [z, fa] at e; cases e
      · rw [z, fT] at e; cases e
    · rw [hex] at hE
      exact hE.elim
theorem s_call {gs : En → Sto → R (List U)} {g : List U → Sto → R U} {k : Nat} {f : Addr} {fd : FuncData} {ps : List Str} {x : Str} {p : Pos} (G : FnOk X.prog X.w X.K X.mg X.base (CXm X.K X.prog X.w) k f fd ps (spOf X.K sc ps.length g)) (hr : Room k X.A) (hg : Gl X x)
    (hm : X.mg x = some (.ref f)) (hk : PySem.W.keepIn X.K (.ref f) = true) (hb : Binds X.K fd ps []) (hx : XeAir X E) (hex : X.ex = [] ∨ E = noX) (hlen : ∀ us S (P : U → Sto → Prop) (Px : Str → Sto → Prop), (g us S).wp P Px → us.length = ps.length) (hdb : (x == ("__debug__" : Str)) = false) (h : PA X (a :: rest) (tA X.K sc E gs))
    (hn : NoStar X (a :: rest)) : PE X (.Call (.Name x p) (a :: rest) [] pos) (tE X.K sc E (gCall gs g)) := by
  intro pins s σ H Q I hw
  obtain ⟨ρ, σu, S, hS, hE, w⟩ := hw
  refine wpAny_Call_Name_kw (ld_glob I hg hm ?_ hdb)
  refine PySem.W.callWith_K (h₀ := X.base) I.ok.mod.kin hk (thn (h pos pins s σ H _ I (W.get hS hE (wp_bd w))) fun us s1 ⟨vs, H1, I1, r, xs, S1, k1, t1, n1, r1, w1⟩ => ⟨I1.kIn, ?_⟩) (hn a List.mem_cons_self rest) (NoStar.any fun z hz => hn z (List.mem_cons_of_mem _ hz))
  exact call_go G hr hb hx hex hlen I1 r k1 t1 r1 w1
theorem s_call0 {g : List U → Sto → R U} {k : Nat} {f : Addr} {fd : FuncData} {ps : List Str} {x : Str} {p : Pos} (G : FnOk X.prog X.w X.K X.mg X.base (CXm X.K X.prog X.w) k f fd ps (spOf X.K sc ps.length g)) (hr : Room k X.A) (hg : Gl X x)
    (hm : X.mg x = some (.ref f)) (hk : PySem.W.keepIn X.K (.ref f) = true) (hb : Binds X.K fd ps []) (hx : XeAir X E) (hex : X.ex = [] ∨ E = noX) (hlen : ∀ us S (P : U → Sto → Prop) (Px : Str → Sto → Prop), (g us S).wp P Px → us.length = ps.length) (hdb : (x == ("__debug__" : Str)) = false) :
    PE X (.Call (.Name x p) [] [] pos) (tE X.K sc E (gCall gNil g)) := by
  intro pins s σ H Q I hw
  obtain ⟨ρ, σu, S, hS, hE, w⟩ := hw
  refine wpAny_Call_Name_kw (ld_glob I hg hm ?_ hdb)
  exact PySem.W.callWith_K0 I.kIn hk (call_go G hr hb hx hex hlen I .nil Kp.refl hS .nil w)
/-! ### raise -/
def gRse (c : Str) (gs : En → Sto → R (List U)) : En → Sto → R Fl := fun σ S => (gs σ S).sx σ fun us S1 => if us.length ≤ sizeLine then .ok (.exc c σ) S1 else .bad
theorem t_rse {gs : En → Sto → R (List U)} {x : Str} {C : Addr} {np cpos : Pos} (hc : X.calm = true) (hx : XeRaw X E) (hcl : ClsOk X.K x C) (hex : X.ex = []) (hg : Gl X x) (hdb : (x == ("__debug__" : Str)) = false) (h : PA X (a :: rest) (tA X.K sc E gs)) (hn : NoStar X (a :: rest)) :
    PS X (.Raise (some (.Call (.Name x np) (a :: rest) [] cpos)) none pos) (tS X.K sc E (gRse x gs)) := by
  intro pins s σ H D I hw
  obtain ⟨ρ, σu, S, hS, hE, w⟩ := hw
  obtain ⟨bm, N, nm, qn, bs, hc', sn, sb, ab, cl, dd, k0, k1, k2, k3, k5, mN, hC, hN, hni, hT⟩ := cls_obj I.ok.mod.kin hcl.ex
  have he := hn a List.mem_cons_self rest
  refine wpAny_Raise_call_subT (C := C) (nm := nm) (q := qn) (N := N) (bs := bs) (bm := bm) (hdct := hc') (sn := sn) (sub := sb) (ab := ab) (col := cl) (dd := dd) (k0 := k0) (k1 := k1) (k2 := k2) (k3 := k3) (k5 := k5) PySem.F.excBase_ValueError (mN := mN) (hT.hasType PySem.F.excBase_ValueError.hasBase) (I.ok.hd hc) (NoStar.any hn) hni
    (ld_glob I hg (PySem.W.mg_of I.ok.mod.kin I.ok.mod.glob hcl.ns) ⟨rfl, ?_⟩ hdb)
  have st := h cpos pins s σ H _ I (W.get hS hE (P := fun us S1 => us.length ≤ sizeLine ∧ FlK X.K sc E ρ H S1 D (.exc x σu)) ((wp_sx w).mono (fun us S1 w => ?_) fun c S1 p H' k' s' => p σ ρ H' (Ex.of k') s' (hE.kp k')))
  · rw [he] at st ⊢
    refine Calls.evalArgs_plain (wpAny_mono st (fun us s2 ⟨vs, H2, I2, r, xs, S1, q1, t1, n1, r1, hl, q⟩ => ⟨rfl, ?_, I2.bk _ _ hC, hN.keeps I2.bk, hT.keeps I2.bk, fun h' e hm => ?_⟩) fun _ _ y => y)
    · rw [← r.length, ← RUs.length r1]; exact hl
    · obtain ⟨t, e1, _, _⟩ := hm.there
      have I3 : Inv X pins σ H2 { s2 with heap := h' } := I2.kept (t' := s2.toks) hm.keeps
      refine hx σ H2 _ x C e (inv_drop I3) hcl ⟨t, e1⟩ (hok_has I2.hok hm.new) ?_ (q σ ρ H2 (Ex.of q1) t1 n1)
      cases q : X.s_0.heap.get? e with
      | none => rfl
      | some o =>
        obtain ⟨o', e'⟩ := I2.base.there e o q (by rw [hex]; simp)
        rw [hm.new] at e'
        cases e'
  · split at w
    · rename_i hl
      exact ⟨hl, w⟩
    · exact w.elim
/-! ### try -/
def gTri (gb : En → Sto → R Fl) (cs : List Str) (gh : En → Sto → R Fl) : En → Sto → R Fl := fun σ S => (gb σ S).bd fun fl S1 => match fl with
      | .exc d σ2 => if cs.any fun y => decide (y = d) then noEx (gh σ2 S1) else .bad
      | fl => .ok fl S1
theorem noEx_flw {K : PySem.W.Frag} {ρ : Ad} {H : Hp} {D : Ends} {r : R Fl} (h : FlW K sc E ρ H D (noEx r)) : FlW K sc noX ρ H D r := by
  cases r with
  | ok fl S =>
    cases fl with
    | exc c s => exact h.elim
    | nx s => exact h
    | brk s => exact h
    | cnt s => exact h
    | ret s => exact h
  | exc c S => exact h
  | bad => exact h
theorem t_tri {body suite : List Stmt} {b0 : Stmt} {x : Str} {np hpos : Pos} {cs : List Str} {gb gh : En → Sto → R Fl} {Dd : Addr} (hex : X.ex = []) (hst : X.stack = X.env :: X.outer) (hfr : X.env.frame = some X.env.locals) (hg : Gl X x) (hdb : (x == ("__debug__" : Str)) = false) (hm : X.mg x = some (.ref Dd))
    (hcl : ∀ c, (cs.any fun y => decide (y = c)) = true → ∀ C, ClsOk X.K c C → PySem.W.exmOne X.K (.ref C) (.ref Dd) = some true)
    (hb : ∀ pn xe Et, XeAir { X with pn := pn, xe := xe } Et → PassesOwn (model X.prog X.w) X.A X.env xe → PSs { X with pn := pn, xe := xe } body (tS X.K sc Et gb))
    (hh : ∀ e xe, PSs { X with A := X.A.mark (some (.ref e)), calm := false, xe := xe } (b0 :: suite) (tS X.K sc noX gh)) :
    PS X (.Try body [.ExceptHandler (some (.Name x np)) none (b0 :: suite) hpos] [] [] pos) (tS X.K sc E (gTri gb cs gh)) := by
  intro pins s σ H D I hw
  obtain ⟨ρ, σu, S, hS, hE, w⟩ := hw
  refine wpAny_Try_except ?_
  generalize hxe : (fun e s₁ => wpAny (model X.prog X.w) X.A (noteFrame e X.env) (fun _ s₂ => wpAny (model X.prog X.w) X.A (setFlight e none) (fun _ s₃ => wpAny (model X.prog X.w) X.A (handleBy e X.env [.ExceptHandler (some (.Name x np)) none (b0 :: suite) hpos]) (SP X pins D) X.xe s₃) X.xe s₂) X.xe s₁) = xe
  have hpo : PassesOwn (model X.prog X.w) X.A X.env xe := by rw [← hxe]; exact PassesOwn.looking
  have ok1 : ∀ {pn : List (Addr × Obj)} {xe : Value → Shared → Prop}, Cx.Ok { X with pn := pn, xe := xe } := fun {pn xe} => ⟨I.ok.mod, I.ok.kind, I.ok.glob, I.ok.blt, I.ok.above, I.ok.inj, I.ok.has, I.ok.cab, I.ok.hd, I.ok.frames, I.ok.stk, I.ok.exf, I.ok.bs, I.ok.bsz, I.ok.noex, I.ok.exfs, I.ok.funs, I.ok.frf⟩
  have to1 : ∀ {xe : Value → Shared → Prop} {σ : L2.St} {H : Hp} {s : Shared}, Inv X pins σ H s → Inv { X with pn := X.pn ++ pins, xe := xe } [] σ H s := fun I => ⟨ok1, I.os, I.bare, I.base, I.loc, I.cell, I.free, I.freeC, fun p hp => I.pin p (by simpa using hp), I.hok, I.len⟩
  have un1 : ∀ {xe : Value → Shared → Prop} {σ : L2.St} {H : Hp} {s : Shared}, Inv { X with pn := X.pn ++ pins, xe := xe } [] σ H s → Inv X pins σ H s := fun J => ⟨I.ok, J.os, J.bare, J.base, J.loc, J.cell, J.free, J.freeC, fun p hp => J.pin p (by simpa using hp), J.hok, J.len⟩
  let Et : XW := fun c σ' H' => ∃ ρ' σu' S1, StR X.K ρ' H' S1 ∧ EnR X.K sc ρ' H' σu' σ' ∧ (cs.any fun y => decide (y = c)) = true ∧ FlW X.K sc noX ρ' H' D (gh σu' S1)
  have xair : XeAir { X with pn := X.pn ++ pins, xe := xe } Et := by
    intro σ1 H1 s1 c C a T I1 hc hA hEt
    obtain ⟨ρ', σu', S1, hS1, hE1, hcs, w1⟩ := hEt
    obtain ⟨oe, vs, oT, ts, a0, e1, e2, e3, e4, e5, e6, e7, e8, e9⟩ := hA.air.it
    have mem : ∀ b ∈ [a, T], b = a ∨ b = T := fun b hb => by simpa using hb
    have hstk := I1.stack
    have fl0 : Heap.FlyingW (PySem.W.hideAll s1.heap (frs X.stack ++ [a, T])) X.stack a (.ref C) a0 s1.heap :=
      ⟨fun b o e => PySem.W.of_hideAll _ e, PySem.W.hideAll_none _ (List.mem_append_right _ (by simp)), hide_frames hstk _, oe, vs, T, oT, ts, e1, ⟨e2, e4⟩, e3, e5, PySem.W.hideAll_none _ (List.mem_append_right _ (by simp)), e6, e7, e8, e9⟩
    have again : ∀ h', (PySem.W.hideAll s1.heap (frs X.stack ++ [a, T])).StaysIn h' → s1.heap.UpToSlots h' → Inv X pins σ1 H1 { s1 with heap := h' } := fun h' k u => by
      refine un1 (xe := xe) (inv_left I1 (ts := [a, T]) (Left.of k u) hex (fun b hb => ?_) (fun b hb => ?_) (fun b hb p hp => ?_) fun b hb o e => ?_)
      · rcases mem b hb with rfl | rfl
        · exact hA.ha
        · exact hA.hT
      · rcases mem b hb with rfl | rfl
        · exact hA.fa
        · exact hA.fT
      · rcases mem b hb with rfl | rfl
        · exact (hA.pa p hp).1
        · exact (hA.pa p hp).2
      · rcases mem b hb with rfl | rfl
        · rw [e1] at e; cases e; exact ⟨_, e3⟩
        · rw [e7] at e; cases e; exact ⟨_, e8⟩
    have okm : ∀ {xe : Value → Shared → Prop}, Cx.Ok { X with A := X.A.mark (some (.ref a)), calm := false, xe := xe } := fun {xe} => ⟨I.ok.mod, I.ok.kind, I.ok.glob, I.ok.blt, I.ok.above, I.ok.inj, I.ok.has, I.ok.cab, (fun z => by cases z), I.ok.frames, I.ok.stk, I.ok.exf, I.ok.bs, I.ok.bsz, I.ok.noex, I.ok.exfs, I.ok.funs, I.ok.frf⟩
    have tom : ∀ {xe : Value → Shared → Prop} {σ : L2.St} {H : Hp} {s : Shared}, Inv X pins σ H s → Inv { X with A := X.A.mark (some (.ref a)), calm := false, xe := xe } pins σ H s := fun I => ⟨okm, I.os, I.bare, I.base, I.loc, I.cell, I.free, I.freeC, I.pin, I.hok, I.len⟩
    have unm : ∀ {xe : Value → Shared → Prop} {σ : L2.St} {H : Hp} {s : Shared}, Inv { X with A := X.A.mark (some (.ref a)), calm := false, xe := xe } pins σ H s → Inv X pins σ H s := fun J => ⟨I.ok, J.os, J.bare, J.base, J.loc, J.cell, J.free, J.freeC, J.pin, J.hok, J.len⟩
    show xe (.ref a) s1
    rw [← hxe]
    show wpAny _ _ (noteFrame (.ref a) X.env) _ _ s1
    have fr : X.A.frames = some (X.env :: X.outer) := by rw [← hst]; exact I.ok.frames
    have fl0' := fl0
    rw [show (Heap.FlyingW (PySem.W.hideAll s1.heap (frs X.stack ++ [a, T])) X.stack a (.ref C) a0 s1.heap) = (Heap.FlyingW (PySem.W.hideAll s1.heap (frs X.stack ++ [a, T])) (X.env :: X.outer) a (.ref C) a0 s1.heap) by rw [hst]] at fl0'
    refine wpAny_looks_onW fr hfr fl0' fun h4 held4 sm4 => ?_
    refine wpAny_landsW held4 fun h5 fl5 sm5 => ?_
    have I5 := again h5 fl5.1 (sm4.trans sm5)
    refine wpAny_handleBy_cons (codeAny_handlers_test ?_) (by intro q; cases q)
    refine ld_glob (X := { X with A := X.A.mark (some (.ref a)), calm := false }) (pins := pins) (σ := σ1) (H := H1) (tom (xe := X.xe) I5) hg hm ?_ hdb
    obtain ⟨ob, hob, hobc⟩ := fl5.there
    have hobc : ob.cls = .ref C := hobc
    have LT : PySem.W.Looks (model X.prog X.w) h5 (typeOf (.ref a)) (.ref C) := by
      have z : PySem.W.Looks (model X.prog X.w) h5 (typeOf (.ref a)) ob.cls := (PySem.W.Looks.ld hob).andThen .now
      rw [hobc] at z
      exact z
    have kin : X.K.In h5 := I5.kIn
    refine PySem.W.Looks.here (s := { s1 with heap := h5 }) (PySem.W.exm_one kin LT (hcl c hcs C hc)) ?_
    refine codeAny_handlers_suite ?_
    refine lands_againW fl5 fun h6 fl6 sm6 => ?_
    have I6 := again h6 fl6.1 ((sm4.trans sm5).trans sm6)
    have run := hh a (notedBy (model X.prog X.w) (X.A.mark (some (.ref a))) X.env fun x s₂ => cameBackBy (model X.prog X.w) X.A X.env X.xe x s₂) pins { s1 with heap := h6 } σ1 H1 D (tom I6) ⟨ρ', σu', S1, hS1, hE1, w1⟩
    refine wpAny_mono run (fun f s2 q => ?_) fun _ _ z => z
    cases f with
    | next => obtain ⟨σ', H', J, q⟩ := q; exact ⟨σ', H', unm J, q⟩
    | brk => obtain ⟨σ', H', J, q⟩ := q; exact ⟨σ', H', unm J, q⟩
    | cont => obtain ⟨σ', H', J, q⟩ := q; exact ⟨σ', H', unm J, q⟩
    | ret u => obtain ⟨v, σ', H', J, r, q⟩ := q; exact ⟨v, σ', H', unm J, r, q⟩
  have main := hb (X.pn ++ pins) xe Et xair hpo [] s σ H D (to1 I) ⟨ρ, σu, S, hS, hE, (wp_bd w).mono (fun fl S1 w => ?_) fun _ _ z => z⟩
  · refine wpAny_mono main (fun f s2 q => ?_) fun _ _ z => z
    cases f with
    | next =>
      obtain ⟨σ', H', J, q⟩ := q
      exact wpAny_execs_nil ⟨σ', H', un1 J, q⟩
    | brk => obtain ⟨σ', H', J, q⟩ := q; exact ⟨σ', H', un1 J, q⟩
    | cont => obtain ⟨σ', H', J, q⟩ := q; exact ⟨σ', H', un1 J, q⟩
    | ret u => obtain ⟨v, σ', H', J, r, q⟩ := q; exact ⟨v, σ', H', un1 J, r, q⟩
  · cases fl with
    | nx s => exact w
    | brk s => exact w
    | cnt s => exact w
    | ret s => exact w
    | exc d σ2 =>
      have w : FlW X.K sc E ρ H D (if cs.any fun y => decide (y = d) then noEx (gh σ2 S1) else .bad) := w
      split at w
      · rename_i hcs
        exact fun σ' ρ' H' x s1 n1 => ⟨ρ', σ2, S1, s1, n1, hcs, FlW.weak x s1 (noEx_flw w)⟩
      · exact w.elim
end
end Ev

set_option Elab.async false
set_option linter.all false
set_option maxRecDepth 100000
set_option maxHeartbeats 1000000
namespace Ev
open PySem L2
open PyProof.Rows hiding St
/-! ### the program's tree, one constructor at a time -/
def rName : Expr → Option (Str × Pos) | .Name x p => some (x, p) | _ => none
def rConst : Expr → Option Const | .Constant c _ _ => some c | _ => none
def rBin : Expr → Option (Expr × Operator × Expr) | .BinOp a o b _ => some (a, o, b) | _ => none
def rUn : Expr → Option (UnaryOp × Expr) | .UnaryOp o a _ => some (o, a) | _ => none
def rCmp : Expr → Option (Expr × List CmpOp × List Expr) | .Compare a o b _ => some (a, o, b) | _ => none
def rBool : Expr → Option (BoolOp × List Expr) | .BoolOp o a _ => some (o, a) | _ => none
def rIf : Expr → Option (Expr × Expr × Expr) | .IfExp c a b _ => some (c, a, b) | _ => none
def rTup : Expr → Option (List Expr) | .Tuple a _ _ => some a | _ => none
def rLst : Expr → Option (List Expr) | .List a _ => some a | _ => none
def rSub : Expr → Option (Expr × Expr) | .Subscript a b _ => some (a, b) | _ => none
def rCall : Expr → Option (Expr × List Expr × List Keyword × Pos) | .Call f as ks p => some (f, as, ks, p) | _ => none
def rAttr : Expr → Option (Expr × Str × Pos) | .Attribute f x p => some (f, x, p) | _ => none
def rLc : Expr → Option (Expr × List Comprehension × Scope × Pos) | .ListComp e gs sc p => some (e, gs, sc, p) | _ => none
theorem rName_inv {e : Expr} {x : Str} {p : Pos} (h : rName e = some (x, p)) : e = .Name x p := by cases e <;> cases h; rfl
theorem rConst_inv {e : Expr} {c : Const} (h : rConst e = some c) : ∃ j p, e = .Constant c j p := by cases e <;> cases h; exact ⟨_, _, rfl⟩
theorem rBin_inv {e a b : Expr} {o : Operator} (h : rBin e = some (a, o, b)) : ∃ p, e = .BinOp a o b p := by cases e <;> cases h; exact ⟨_, rfl⟩
theorem rUn_inv {e a : Expr} {o : UnaryOp} (h : rUn e = some (o, a)) : ∃ p, e = .UnaryOp o a p := by cases e <;> cases h; exact ⟨_, rfl⟩
theorem rCmp_inv {e a : Expr} {o : List CmpOp} {b : List Expr} (h : rCmp e = some (a, o, b)) : ∃ p, e = .Compare a o b p := by cases e <;> cases h; exact ⟨_, rfl⟩
theorem rBool_inv {e : Expr} {o : BoolOp} {b : List Expr} (h : rBool e = some (o, b)) : ∃ p, e = .BoolOp o b p := by cases e <;> cases h; exact ⟨_, rfl⟩
theorem rIf_inv {e c a b : Expr} (h : rIf e = some (c, a, b)) : ∃ p, e = .IfExp c a b p := by cases e <;> cases h; exact ⟨_, rfl⟩
theorem rTup_inv {e : Expr} {a : List Expr} (h : rTup e = some a) : ∃ k p, e = .Tuple a k p := by cases e <;> cases h; exact ⟨_, _, rfl⟩
theorem rLst_inv {e : Expr} {a : List Expr} (h : rLst e = some a) : ∃ p, e = .List a p := by cases e <;> cases h; exact ⟨_, rfl⟩
theorem rSub_inv {e a b : Expr} (h : rSub e = some (a, b)) : ∃ p, e = .Subscript a b p := by cases e <;> cases h; exact ⟨_, rfl⟩
theorem rCall_inv {e f : Expr} {as : List Expr} {ks : List Keyword} {p : Pos} (h : rCall e = some (f, as, ks, p)) : e = .Call f as ks p := by cases e <;> cases h; rfl
theorem rAttr_inv {e f : Expr} {x : Str} {p : Pos} (h : rAttr e = some (f, x, p)) : e = .Attribute f x p := by cases e <;> cases h; rfl
theorem rLc_inv {e f : Expr} {gs : List Comprehension} {sc : Scope} {p : Pos} (h : rLc e = some (f, gs, sc, p)) : e = .ListComp f gs sc p := by cases e <;> cases h; rfl
def nostar : Expr → Bool | .Starred _ _ => false | _ => true
def noset : Expr → Bool | .Set _ _ _ => false | _ => true
def noslice : Expr → Bool | .Slice _ _ _ _ => false | _ => true
def isLc : Expr → Bool | .ListComp _ _ _ _ => true | .SetComp _ _ _ _ => true | .DictComp _ _ _ _ _ => true | _ => false
def isTupE : Expr → Bool | .Tuple _ _ _ => true | _ => false
/-- its test is its value's truth -/
def plainT : Expr → Bool | .UnaryOp .Not _ _ => false | .BoolOp _ _ _ => false | .IfExp _ _ _ _ => false | .Compare _ _ _ _ => false | _ => true
theorem star_of {X : Cx} {e : Expr} (h : nostar e = true) (es : List Expr) : starEach (e :: es) X.env = (false, eval e X.env) :: starEach es X.env := by cases e <;> first | rfl | cases h
theorem folded_of {X : Cx} {e : Expr} (h : noset e = true) (x : Value) : foldedSetIterable e X.env x = pure x := by cases e <;> first | rfl | cases h
theorem behind_of {o : CmpOp} {e : Expr} (h : noset e = true) : behindInMarks o e = false := by cases e <;> first | rfl | cases h
theorem plainIx_of {e : Expr} (h : noslice e = true) : PlainIx e := fun o i => by cases e <;> first | rfl | cases h
theorem plainT_of {X : Cx} {e : Expr} (h : plainT e = true) (whole : Sem Value) : isTrue e X.env whole = (do let v ← whole; standAt e.pos; holding [v] (truthy v)) := by
  cases e with
  | UnaryOp o a p => cases o <;> first | rfl | cases h
  | BoolOp _ _ _ => cases h
  | IfExp _ _ _ _ => cases h
  | Compare _ _ _ _ => cases h
  | _ => rfl
theorem swaps_of {X : Cx} {e : Expr} {t : Option Expr} {l : Nat} (h : isLc e = false) : swapsWith e t l X.env = pure false := by cases e <;> first | rfl | cases h

structure Ctx where
  N : List Str
  sc : Scope
  G : List (Str × PyData)
  fs : Nat → Option Str
  bs : List Str
  cm : Bool
  rs : Bool
  xs : List Str
  xm : List (Str × Str)
def Ctx.xc (C : Ctx) (x : Str) : Bool := C.xs.any fun y => decide (y = x)
def Ctx.xp (C : Ctx) (d c : Str) : Bool := C.xm.any fun y => decide (y.1 = d) && decide (y.2 = c)
/-- a comprehension's block -/
def Ctx.blk (C : Ctx) (scope : Scope) : Ctx := { C with sc := scope, rs := false }
def Ctx.vis (C : Ctx) (x : Str) : Bool := match C.sc.names.lookup x with
  | some .local => true
  | some .cell => true
  | some .free => true
  | _ => false
def Ctx.loc (C : Ctx) (x : Str) : Bool := match C.sc.names.lookup x with
  | some .local => true
  | some .cell => true
  | _ => false
def Ctx.glb (C : Ctx) (x : Str) : Bool := match C.sc.names.lookup x with
  | some .globalImplicit => true
  | _ => false
def okN (x : Str) : Bool := !(x == ("__debug__" : Str)) && !(x == ("__classdict__" : Str))
/-- a built-in's name -/
def Ctx.blt (C : Ctx) (x : Str) : Bool := C.glb x && C.bs.any fun y => decide (y = x)

def mNm (C : Ctx) (i : Nat) (t : Expr) : Bool := match rName t with
  | some (x, _) => decide (C.N[i]? = some x) && C.loc x
  | none => false
def mNms (C : Ctx) : List Nat → List Expr → Bool
  | [], [] => true
  | i :: is, t :: ts => mNm C i t && mNms C is ts
  | _, _ => false
def mG (C : Ctx) : G → Expr → Bool
  | .nm i, t => mNm C i t
  | .tp is, t => match rTup t with
    | some ts => C.cm && mNms C is ts
    | none => false
def ownOf (N : List Str) (g : G) : List (Str × Nat) := g.slots.map fun i => (N.getD i Str.empty, i)
theorem ownOf_snd (N : List Str) (g : G) : (ownOf N g).map (·.2) = g.slots := by
  unfold ownOf
  rw [List.map_map]
  exact List.map_id _
mutual
def mE : E → Ctx → Expr → Bool
  | .var i, C, pe => match rName pe with
    | some (x, _) => decide (C.N[i]? = some x) && C.vis x && okN x
    | none => false
  | .int i, C, pe => match rConst pe with
    | some (.int j) => decide (j = i)
    | _ => false
  | .bl i, C, pe => match rConst pe with
    | some (.bool j) => decide (j = i)
    | _ => false
  | .non, C, pe => match rConst pe with
    | some .none => true
    | _ => false
  | .str i, C, pe => match rConst pe with
    | some (.str j) => decide (j = i)
    | _ => false
  | .glob x c, C, pe => match rName pe with
    | some (y, _) => decide (y = x) && C.glb x && okN x && (match C.G.lookup x with
      | some d => sameP d c
      | none => false)
    | none => false
  | .bin o a b, C, pe => match rBin pe with
    | some (l, p, r) => decide (p = o.op) && mE a C l && mE b C r
    | none => false
  | .neg a, C, pe => match rUn pe with
    | some (.USub, x) => mE a C x
    | _ => false
  | .cmp o a b, C, pe => match rCmp pe with
    | some (l, [p], [r]) => decide (p = o.op) && mE a C l && mE b C r && noset r
    | _ => false
  | .chn o o' a b c, C, pe => match rCmp pe with
    | some (l, [p, p'], [r, r']) => decide (p = o.op) && decide (p' = o'.op) && mE a C l && mE b C r && mE c C r' && noset r'
    | _ => false
  | .isN neg a, C, pe => match rCmp pe with
    | some (l, [p], [r]) => decide (p = if neg then .IsNot else .Is) && mE a C l && (match rConst r with
      | some .none => true
      | _ => false)
    | _ => false
  | .and as, C, pe => match rBool pe with
    | some (.And, vs) => mEs as C vs
    | _ => false
  | .or as, C, pe => match rBool pe with
    | some (.Or, vs) => mEs as C vs
    | _ => false
  | .not a, C, pe => match rUn pe with
    | some (.Not, x) => mE a C x
    | _ => false
  | .ife c a b, C, pe => match rIf pe with
    | some (pc, pa, pb) => mE c C pc && mE a C pa && mE b C pb
    | none => false
  | .tup as, C, pe => match rTup pe with
    | some vs => mEs as C vs
    | none => false
  | .lst as, C, pe => match rLst pe with
    | some vs => mEs as C vs
    | none => false
  | .ix a i, C, pe => match rSub pe with
    | some (v, s) => mE a C v && mE i C s && noslice s
    | none => false
  | .call f as, C, pe => match rCall pe with
    | some (fn, args, [], _) => (match rName fn with
      | some (x, _) => C.cm && decide (C.fs f = some x) && C.glb x && okN x && mEs as C args
      | none => false)
    | _ => false
  | .blt b as, C, pe => match rCall pe with
    | some (fn, args, [], _) => (match rName fn with
      | some (x, _) => C.cm && decide (x = Str.ofString b.name) && C.blt x && mEs as C args && !args.isEmpty
      | none => false)
    | _ => false
  | .isi a t, C, pe => match rCall pe with
    | some (fn, [v, w], [], _) => (match rName fn, rName w with
      | some (x, _), some (y, _) => decide (x = "isinstance") && C.blt x && decide (y = Str.ofString t.name) && C.blt y && mE a C v
      | _, _ => false)
    | _ => false
  | .lc e g it ts, C, pe => match rLc pe with
    | some (elt, [gen], scope, _) => C.cm && decide (gen.is_async = 0) && mI it C gen.iter && mG (C.blk scope) g gen.target && mE e (C.blk scope) elt && mEs ts (C.blk scope) gen.ifs && blkC C.N C.sc scope (ownOf C.N g) && noset gen.iter && (!it.pairs || isTupE gen.target)
    | _ => false
  | .bad, _, pe => nostar pe
def mEs : Es → Ctx → List Expr → Bool
  | .nil, _, pes => pes.isEmpty
  | .cons a as, C, pes => match pes with
    | [] => false
    | p :: ps => mE a C p && mEs as C ps
def mI : I → Ctx → Expr → Bool
  | .seq e, C, pe => mE e C pe
  | .rng1 a, C, pe => match rCall pe with
    | some (fn, [v], [], _) => (match rName fn with
      | some (x, _) => decide (x = "range") && C.blt x && mE a C v
      | none => false)
    | _ => false
  | .rng2 a b, C, pe => match rCall pe with
    | some (fn, [v, w], [], _) => (match rName fn with
      | some (x, _) => decide (x = "range") && C.blt x && mE a C v && mE b C w
      | none => false)
    | _ => false
  | .zip a b, C, pe => match rCall pe with
    | some (fn, [v, w], [], _) => (match rName fn with
      | some (x, _) => decide (x = "zip") && C.blt x && mE a C v && mE b C w
      | none => false)
    | _ => false
end
theorem isTupE_inv {e : Expr} (h : isTupE e = true) : ∃ es k p, e = .Tuple es k p := by cases e <;> first | exact ⟨_, _, _, rfl⟩ | cases h
theorem mE_nostar : ∀ {e : E} {C : Ctx} {pe : Expr}, mE e C pe = true → nostar pe = true := by
  intro e C pe h
  cases pe with
  | Starred v p => cases e <;> (unfold mE at h; first | exact h | (simp [rName, rConst, rBin, rUn, rCmp, rBool, rIf, rTup, rLst, rSub, rCall, rLc] at h))
  | _ => rfl
end Ev

set_option Elab.async false
set_option linter.all false
set_option maxRecDepth 100000
set_option maxHeartbeats 2000000
namespace Ev
open PySem L2
open PyProof.Rows hiding St
/-- a context fits what is written of it -/
structure Okx (C : Ctx) (F : Nat → List U → Sto → R U) (sc : List Int) (E : XW) (X : Cx) : Prop where
  hN : X.N = C.N
  nd : C.N.Nodup
  vis : ∀ x, C.vis x = true → Vis X.env.scope x
  loc : ∀ x, C.loc x = true → Loc X.env.scope x ∧ (X.fn x = true ∨ X.env.scope.names.lookup x = some .local)
  glb : ∀ x, C.glb x = true → Gl X x
  cf : ∀ x, C.sc.names.lookup x = some .cell ∨ C.sc.names.lookup x = some .free → X.env.scope.names.lookup x = some .cell ∨ X.env.scope.names.lookup x = some .free
  calm : C.cm = true → X.calm = true
  un : X.A.units + 64 < cLine
  gs : ∀ x c, C.G.lookup x = some c → ∃ v u, X.mg x = some u ∧ RelV v u ∧ ∀ ρ H, DR X.K ρ H v c
  bt : ∀ x ∈ C.bs, X.mg x = none
  fn : C.cm = true → ∀ f x, C.fs f = some x → ∃ k fa fd ps, FnOk X.prog X.w X.K X.mg X.base (CXm X.K X.prog X.w) k fa fd ps (spOf X.K sc ps.length (F f)) ∧ Room k X.A ∧ X.mg x = some (.ref fa) ∧ PySem.W.keepIn X.K (.ref fa) = true ∧ Binds X.K fd ps [] ∧ ∀ us S (P : U → Sto → Prop) (Px : Str → Sto → Prop), (F f us S).wp P Px → us.length = ps.length
  xa : XeAir X E
  ex : X.ex = [] ∨ E = noX
  xr : C.rs = true → XeRaw X E
  cls : ∀ x, C.xc x = true → ∃ D, ClsOk X.K x D ∧ X.mg x = some (.ref D)
  xm : ∀ d c, C.xp d c = true → ∃ D, X.mg c = some (.ref D) ∧ ∀ D', ClsOk X.K d D' → PySem.W.exmOne X.K (.ref D') (.ref D) = some true
theorem Okx.blt {C : Ctx} {F : Nat → List U → Sto → R U} {sc : List Int} {E : XW} {X : Cx} (O : Okx C F sc E X) {x : Str} (h : C.blt x = true) : Gl X x ∧ X.mg x = none := by
  unfold Ctx.blt at h
  rw [Bool.and_eq_true] at h
  refine ⟨O.glb x h.1, ?_⟩
  obtain ⟨y, hy, e⟩ := List.any_eq_true.mp h.2
  have e := of_decide_eq_true e
  subst e
  exact O.bt y hy
theorem lookup_relabel {env : Env} : ∀ {names : List (Str × NameKind)} {x : Str} {k : NameKind}, names.lookup x = some k →
    (names.map fun (n, k) => if (k == NameKind.free && env.scope.kind == .function && env.kindOf n == some .cell) then (n, NameKind.cell) else (n, k)).lookup x = some k ∨
    (k = .free ∧ (names.map fun (n, k) => if (k == NameKind.free && env.scope.kind == .function && env.kindOf n == some .cell) then (n, NameKind.cell) else (n, k)).lookup x = some .cell)
  | [], _, _, h => by simp at h
  | (n, k') :: r, x, k, h => by
    have ih := @lookup_relabel env r x k
    rw [List.lookup_cons] at h
    rw [List.map_cons]
    cases hx : x == n with
    | true =>
      rw [hx] at h
      cases h
      by_cases hc : (k' == NameKind.free && env.scope.kind == .function && env.kindOf n == some .cell) = true
      · right
        refine ⟨?_, ?_⟩
        · rw [Bool.and_eq_true, Bool.and_eq_true] at hc
          exact beq_iff_eq.mp hc.1.1
        · dsimp only
          rw [if_pos hc, List.lookup_cons, hx]
      · left
        dsimp only
        rw [if_neg hc, List.lookup_cons, hx]
    | false =>
      rw [hx] at h
      dsimp only
      split
      · rw [List.lookup_cons, hx]; exact ih h
      · rw [List.lookup_cons, hx]; exact ih h
theorem Okx.blk {C : Ctx} {F : Nat → List U → Sto → R U} {sc : List Int} {E : XW} {X : Cx} (O : Okx C F sc E X) (scope : Scope) (s : Shared) (H : Hp) (Ca : Addr) (cl : List (Str × Addr)) (fp : List Addr) :
    Okx (C.blk scope) F sc noX (X.blk s H scope (compEnvC scope cl Ca X.env) fp) where
  hN := O.hN
  nd := O.nd
  vis := fun x h => by
    unfold Ctx.vis Ctx.blk at h
    dsimp only at h
    split at h
    · rename_i e
      rcases lookup_relabel (env := X.env) e with z | ⟨z, _⟩
      · exact .inl z
      · cases z
    · rename_i e
      rcases lookup_relabel (env := X.env) e with z | ⟨z, _⟩
      · exact .inr (.inl z)
      · cases z
    · rename_i e
      rcases lookup_relabel (env := X.env) e with z | ⟨_, z⟩
      · exact .inr (.inr z)
      · exact .inr (.inl z)
    · cases h
  loc := fun x h => by
    unfold Ctx.loc Ctx.blk at h
    dsimp only at h
    split at h
    · rename_i e
      rcases lookup_relabel (env := X.env) e with z | ⟨z, _⟩
      · exact ⟨.inl z, .inr z⟩
      · cases z
    · rename_i e
      rcases lookup_relabel (env := X.env) e with z | ⟨z, _⟩
      · exact ⟨.inr z, .inl (by show (scope.names.lookup x == some .cell) = true; rw [e]; rfl)⟩
      · cases z
    · cases h
  glb := fun x h => by
    unfold Ctx.glb Ctx.blk at h
    dsimp only at h
    split at h
    · rename_i e
      rcases lookup_relabel (env := X.env) e with z | ⟨z, _⟩
      · exact z
      · cases z
    · cases h
  cf := fun x h => by
    rcases h with e | e
    · rcases lookup_relabel (env := X.env) e with z | ⟨z, _⟩
      · exact .inl z
      · cases z
    · rcases lookup_relabel (env := X.env) e with z | ⟨_, z⟩
      · exact .inr z
      · exact .inl z
  calm := O.calm
  un := O.un
  gs := O.gs
  bt := O.bt
  fn := O.fn
  xa := fun _ _ _ _ _ _ _ _ _ _ z => z.elim
  ex := .inr rfl
  xr := fun z => by cases z
  cls := O.cls
  xm := O.xm
section
variable {F : Nat → List U → Sto → R U} {sc : List Int} {E : XW}
theorem mNm_ok {C : Ctx} {X : Cx} (O : Okx C F sc E X) {i : Nat} {t : Expr} (h : mNm C i t = true) : ∃ x p, t = .Name x p ∧ X.N[i]? = some x ∧ Loc X.env.scope x ∧ (X.fn x = true ∨ X.env.scope.names.lookup x = some .local) := by
  unfold mNm at h
  split at h
  · rename_i x p e
    rw [Bool.and_eq_true] at h
    have l := O.loc x h.2
    exact ⟨x, p, rName_inv e, by rw [O.hN]; exact of_decide_eq_true h.1, l.1, l.2⟩
  · cases h
theorem mNms_ok {C : Ctx} {X : Cx} (O : Okx C F sc E X) : ∀ {is : List Nat} {ts : List Expr}, mNms C is ts = true → NamesOk X is ts
  | [], [], _ => .nil
  | i :: is, t :: ts, h => by
    unfold mNms at h
    rw [Bool.and_eq_true] at h
    exact .cons (mNm_ok O h.1) (mNms_ok O h.2)
  | [], _ :: _, h => by cases h
  | _ :: _, [], h => by cases h
theorem mG_ok {C : Ctx} {X : Cx} (O : Okx C F sc E X) {g : G} {t : Expr} (h : mG C g t = true) : PG X t (gPut X.K sc g) := by
  have nd : X.N.Nodup := by rw [O.hN]; exact O.nd
  cases g with
  | nm i =>
    obtain ⟨x, p, rfl, h1, h2, h3⟩ := mNm_ok O (show mNm C i t = true from h)
    exact s_gnm nd h1 h2 h3
  | tp is =>
    have h0 : (match rTup t with | some ts => C.cm && mNms C is ts | none => false) = true := h
    split at h0
    · rename_i ts e
      obtain ⟨k, p, rfl⟩ := rTup_inv e
      rw [Bool.and_eq_true] at h0
      exact s_gtp (O.calm h0.1) nd (mNms_ok O h0.2)
    · cases h0
theorem okN_ok {x : Str} (h : okN x = true) : (x == ("__debug__" : Str)) = false ∧ (x == ("__classdict__" : Str)) = false := by
  unfold okN at h
  rw [Bool.and_eq_true, Bool.not_eq_true', Bool.not_eq_true'] at h
  exact h
/-- the value and the test -/
def Snd (sc : List Int) (E : XW) (X : Cx) (pe : Expr) (g : En → Sto → R U) : Prop := PE X pe (tE X.K sc E g) ∧ PT X pe (tT X.K sc E fun σ S => (g σ S).bd (truU sc))
theorem Snd.of {X : Cx} {pe : Expr} {g : En → Sto → R U} (h : PE X pe (tE X.K sc E g)) (p : plainT pe = true) : Snd sc E X pe g := ⟨h, s_truT h (plainT_of p)⟩
theorem mEs_star : ∀ {es : Es} {C : Ctx} {pes : List Expr} {X : Cx}, mEs es C pes = true → NoStar X pes
  | .nil, C, pes, X, h => by
    cases pes with
    | nil => exact fun e he => by cases he
    | cons p ps => unfold mEs at h; cases h
  | .cons a as, C, pes, X, h => by
    cases pes with
    | nil => unfold mEs at h; cases h
    | cons p ps =>
      unfold mEs at h
      rw [Bool.and_eq_true] at h
      intro e he
      rcases List.mem_cons.mp he with z | z
      · subst z
        exact star_of (mE_nostar h.1)
      · exact mEs_star h.2 e z
theorem pts_imp {X : Cx} {ifs : List Expr} {t t' : TT} (h : PTs X ifs t) (k : ∀ σ H Q, t' σ H Q → t σ H Q) : PTs X ifs t' := fun pins s σ H Q I w => h pins s σ H Q I (k _ _ _ w)
mutual
theorem sE : ∀ (e : Ev.E) (C : Ctx) (E : XW) (X : Cx) (pe : Expr), Okx C F sc E X → mE e C pe = true → Snd sc E X pe (ev F sc e)
  | .var i, C, E, X, pe, O, h => by
    unfold mE at h
    split at h
    · rename_i x p e
      have e := rName_inv e
      subst e
      rw [Bool.and_eq_true, Bool.and_eq_true] at h
      have k := okN_ok h.2
      exact .of (s_var (by rw [O.hN]; exact of_decide_eq_true h.1.1) (O.vis x h.1.2) k.1 k.2) rfl
    · cases h
  | .int i, C, E, X, pe, O, h => by
    unfold mE at h
    split at h
    · rename_i j e
      obtain ⟨_, _, rfl⟩ := rConst_inv e
      have e := of_decide_eq_true h
      subst e
      exact .of (s_con pe_int fun _ _ => .int _) rfl
    · cases h
  | .bl i, C, E, X, pe, O, h => by
    unfold mE at h
    split at h
    · rename_i j e
      obtain ⟨_, _, rfl⟩ := rConst_inv e
      have e := of_decide_eq_true h
      subst e
      exact .of (s_con pe_bl fun _ _ => .bl _) rfl
    · cases h
  | .non, C, E, X, pe, O, h => by
    unfold mE at h
    split at h
    · rename_i e
      obtain ⟨_, _, rfl⟩ := rConst_inv e
      exact .of (s_con pe_non fun _ _ => .non) rfl
    · cases h
  | .str i, C, E, X, pe, O, h => by
    unfold mE at h
    split at h
    · rename_i j e
      obtain ⟨_, _, rfl⟩ := rConst_inv e
      have e := of_decide_eq_true h
      subst e
      exact .of (s_con pe_str fun _ _ => .str _) rfl
    · cases h
  | .glob x c, C, E, X, pe, O, h => by
    unfold mE at h
    split at h
    · rename_i y p e
      have e := rName_inv e
      subst e
      rw [Bool.and_eq_true, Bool.and_eq_true, Bool.and_eq_true] at h
      have e := of_decide_eq_true h.1.1.1
      subst e
      have h2 := h.2
      split at h2
      · rename_i d hd
        have := same_eq d c h2
        subst this
        obtain ⟨v, u, e1, e2, e3⟩ := O.gs _ _ hd
        exact .of (s_con (pe_glob (O.glb _ h.1.1.2) e1 e2 (okN_ok h.1.2).1) e3) rfl
      · cases h2
    · cases h
  | .bin o a b, C, E, X, pe, O, h => by
    unfold mE at h
    split at h
    · rename_i l p r e
      obtain ⟨_, rfl⟩ := rBin_inv e
      rw [Bool.and_eq_true, Bool.and_eq_true] at h
      have e := of_decide_eq_true h.1.1
      subst e
      exact .of (s_bin (sE a C E X l O h.1.2).1 (sE b C E X r O h.2).1) rfl
    · cases h
  | .neg a, C, E, X, pe, O, h => by
    unfold mE at h
    split at h
    · rename_i x e
      obtain ⟨_, rfl⟩ := rUn_inv e
      exact .of (s_neg (sE a C E X x O h).1) rfl
    · cases h
  | .cmp o a b, C, E, X, pe, O, h => by
    unfold mE at h
    split at h
    · rename_i l p r e
      obtain ⟨_, rfl⟩ := rCmp_inv e
      rw [Bool.and_eq_true, Bool.and_eq_true, Bool.and_eq_true] at h
      have e := of_decide_eq_true h.1.1.1
      subst e
      have ha := (sE a C E X l O h.1.1.2).1
      have hb := (sE b C E X r O h.1.2).1
      exact ⟨s_cmp O.un ha hb (behind_of h.2), s_cmpT O.un ha hb (behind_of h.2)⟩
    · cases h
  | .chn o o' a b c, C, E, X, pe, O, h => by
    unfold mE at h
    split at h
    · rename_i l p p' r r' e
      obtain ⟨_, rfl⟩ := rCmp_inv e
      rw [Bool.and_eq_true, Bool.and_eq_true, Bool.and_eq_true, Bool.and_eq_true, Bool.and_eq_true] at h
      have e := of_decide_eq_true h.1.1.1.1.1
      subst e
      have e := of_decide_eq_true h.1.1.1.1.2
      subst e
      have ha := (sE a C E X l O h.1.1.1.2).1
      have hb := (sE b C E X r O h.1.1.2).1
      have hc := (sE c C E X r' O h.1.2).1
      exact ⟨s_chn O.un ha hb hc (behind_of h.2), s_chnT O.un ha hb hc (behind_of h.2)⟩
    · cases h
  | .isN neg a, C, E, X, pe, O, h => by
    unfold mE at h
    split at h
    · rename_i l p r e
      obtain ⟨_, rfl⟩ := rCmp_inv e
      rw [Bool.and_eq_true, Bool.and_eq_true] at h
      have e := of_decide_eq_true h.1.1
      subst e
      have h2 := h.2
      split at h2
      · rename_i e
        obtain ⟨_, _, rfl⟩ := rConst_inv e
        have ha := (sE a C E X l O h.1.2).1
        exact ⟨s_isN ha, s_isNT ha⟩
      · cases h2
    · cases h
  | .and as, C, E, X, pe, O, h => by
    unfold mE at h
    split at h
    · rename_i vs e
      obtain ⟨p, rfl⟩ := rBool_inv e
      have z := sAnd as C E X vs p O h
      exact ⟨z.1, PW.pt z.2⟩
    · cases h
  | .or as, C, E, X, pe, O, h => by
    unfold mE at h
    split at h
    · rename_i vs e
      obtain ⟨p, rfl⟩ := rBool_inv e
      have z := sOr as C E X vs p O h
      exact ⟨z.1, PW.pt z.2⟩
    · cases h
  | .not a, C, E, X, pe, O, h => by
    unfold mE at h
    split at h
    · rename_i x e
      obtain ⟨_, rfl⟩ := rUn_inv e
      have z := sE a C E X x O h
      exact ⟨s_not z.1, s_notT z.2⟩
    · cases h
  | .ife c a b, C, E, X, pe, O, h => by
    unfold mE at h
    split at h
    · rename_i pc pa pb e
      obtain ⟨_, rfl⟩ := rIf_inv e
      rw [Bool.and_eq_true, Bool.and_eq_true] at h
      have zc := sE c C E X pc O h.1.1
      have za := sE a C E X pa O h.1.2
      have zb := sE b C E X pb O h.2
      exact ⟨s_ife zc.2 za.1 zb.1, s_ifeT zc.2 za.2 zb.2⟩
    · cases h
  | .tup as, C, E, X, pe, O, h => by
    unfold mE at h
    split at h
    · rename_i vs e
      obtain ⟨_, _, rfl⟩ := rTup_inv e
      exact .of (s_tup (sEs as C E X vs O h)) rfl
    · cases h
  | .lst as, C, E, X, pe, O, h => by
    unfold mE at h
    split at h
    · rename_i vs e
      obtain ⟨_, rfl⟩ := rLst_inv e
      exact .of (s_lst (sEs as C E X vs O h)) rfl
    · cases h
  | .ix a i, C, E, X, pe, O, h => by
    unfold mE at h
    split at h
    · rename_i v s e
      obtain ⟨_, rfl⟩ := rSub_inv e
      rw [Bool.and_eq_true, Bool.and_eq_true] at h
      exact .of (s_ix (sE a C E X v O h.1.1).1 (sE i C E X s O h.1.2).1 (plainIx_of h.2)) rfl
    · cases h
  | .call f as, C, E, X, pe, O, h => by
    unfold mE at h
    split at h
    · rename_i fn args p e
      have e := rCall_inv e
      subst e
      split at h
      · rename_i x q e
        have e := rName_inv e
        subst e
        rw [Bool.and_eq_true, Bool.and_eq_true, Bool.and_eq_true, Bool.and_eq_true] at h
        obtain ⟨k, fa, fd, ps, G, hr, hm, hk, hb, hl⟩ := O.fn h.1.1.1.1 f x (of_decide_eq_true h.1.1.1.2)
        have hs := mEs_star (X := X) h.2
        have ha := sEs as C E X args O h.2
        cases args with
        | nil =>
          cases as with
          | nil => exact .of (s_call0 G hr (O.glb x h.1.1.2) hm hk hb O.xa O.ex hl (okN_ok h.1.2).1) rfl
          | cons a as => have h2 := h.2; unfold mEs at h2; cases h2
        | cons a as' => exact .of (s_call G hr (O.glb x h.1.1.2) hm hk hb O.xa O.ex hl (okN_ok h.1.2).1 ha hs) rfl
      · cases h
    · cases h
  | .blt b as, C, E, X, pe, O, h => by
    unfold mE at h
    split at h
    · rename_i fn args p e
      have e := rCall_inv e
      subst e
      split at h
      · rename_i x q e
        have e := rName_inv e
        subst e
        rw [Bool.and_eq_true, Bool.and_eq_true, Bool.and_eq_true, Bool.and_eq_true] at h
        have e := of_decide_eq_true h.1.1.1.2
        subst e
        have bt := O.blt h.1.1.2
        have hs := mEs_star (X := X) h.1.2
        have ha := sEs as C E X args O h.1.2
        cases args with
        | nil => have h2 := h.2; cases h2
        | cons a as' => exact .of (s_blt (O.calm h.1.1.1.1) O.un bt.1 bt.2 ha hs) rfl
      · cases h
    · cases h
  | .isi a t, C, E, X, pe, O, h => by
    unfold mE at h
    split at h
    · rename_i fn v w p e
      have e := rCall_inv e
      subst e
      split at h
      · rename_i x q y q' e e'
        have e := rName_inv e
        subst e
        have e' := rName_inv e'
        subst e'
        rw [Bool.and_eq_true, Bool.and_eq_true, Bool.and_eq_true, Bool.and_eq_true] at h
        have e := of_decide_eq_true h.1.1.1.1
        subst e
        have e := of_decide_eq_true h.1.1.2
        subst e
        have b1 := O.blt h.1.1.1.2
        have b2 := O.blt h.1.2
        have ha := sE a C E X v O h.2
        exact .of (s_isi b1.1 b1.2 b2.1 b2.2 ha.1 (fun e he => by rw [List.mem_singleton.mp he]; exact star_of (mE_nostar h.2))) rfl
      · cases h
    · cases h
  | .lc e g it ts, C, E, X, pe, O, h => by
    unfold mE at h
    split at h
    · rename_i elt gen scope p e'
      have e' := rLc_inv e'
      subst e'
      obtain ⟨tg, iter, ifs, as⟩ := gen
      dsimp only at h
      rw [Bool.and_eq_true, Bool.and_eq_true, Bool.and_eq_true, Bool.and_eq_true, Bool.and_eq_true, Bool.and_eq_true, Bool.and_eq_true, Bool.and_eq_true] at h
      obtain ⟨⟨⟨⟨⟨⟨⟨⟨hcm, h0⟩, h1⟩, h2⟩, h3⟩, h4⟩, h5⟩, h6⟩, h7⟩ := h
      have e0 := of_decide_eq_true h0
      subst e0
      have nd : X.N.Nodup := by rw [O.hN]; exact O.nd
      have b0 := blkOk_by h5
      have bk : BlkOk X.N X.env.scope scope (ownOf C.N g) := ⟨b0.kind, b0.uniq, by rw [O.hN]; exact b0.ix, fun y hy z => O.cf y.1 (b0.free y hy z), by rw [O.hN]; exact b0.own⟩
      refine .of ?_ rfl
      have main := pe_lc (X := X) (pos := p) (elt := elt) (wi := tI X.K sc E (evI F sc it)) (g := gPut X.K sc g) (tt := tT X.K sc noX (evTs F sc ts)) (te := tE X.K sc noX (ev F sc e)) (O.calm hcm) nd (sI it C E X iter O tg h1 h7) bk (fun s H Ca cl fp => mG_ok (O.blk scope s H Ca cl fp) h2) (fun s H Ca cl fp => sTs ts _ _ _ ifs (O.blk scope s H Ca cl fp) h4)
        (fun s H Ca cl fp => (sE e _ _ _ elt (O.blk scope s H Ca cl fp) h3).1) (folded_of h6)
      rw [ownOf_snd] at main
      exact PE.imp main lc_imp
    · cases h
  | .bad, C, E, X, pe, O, h => ⟨s_bad, fun _ _ _ _ _ _ ⟨_, _, _, _, _, w⟩ => w.elim⟩
theorem sEs : ∀ (es : Es) (C : Ctx) (E : XW) (X : Cx) (pes : List Expr), Okx C F sc E X → mEs es C pes = true → PA X pes (tA X.K sc E (evs F sc es))
  | .nil, C, E, X, pes, O, h => by
    cases pes with
    | nil => exact s_nil
    | cons p ps => unfold mEs at h; cases h
  | .cons a as, C, E, X, pes, O, h => by
    cases pes with
    | nil => unfold mEs at h; cases h
    | cons p ps =>
      unfold mEs at h
      rw [Bool.and_eq_true] at h
      exact s_cons (sE a C E X p O h.1).1 (sEs as C E X ps O h.2) (star_of (mE_nostar h.1) ps)
theorem sAnd : ∀ (es : Es) (C : Ctx) (E : XW) (X : Cx) (pes : List Expr) (p : Pos), Okx C F sc E X → mEs es C pes = true → PE X (.BoolOp .And pes p) (tE X.K sc E (evAnd F sc es)) ∧ PW X (.BoolOp .And pes p) (tT X.K sc E fun σ S => (evAnd F sc es σ S).bd (truU sc))
  | .nil, C, E, X, pes, p, O, h => ⟨s_bad, fun _ _ _ _ _ _ _ ⟨_, _, _, _, _, w⟩ => w.elim⟩
  | .cons a as, C, E, X, pes, p, O, h => by
    cases pes with
    | nil => unfold mEs at h; cases h
    | cons q qs =>
      unfold mEs at h
      rw [Bool.and_eq_true] at h
      have za := sE a C E X q O h.1
      cases as with
      | nil =>
        cases qs with
        | nil => exact ⟨pe_one za.1, pw_and1 za.2⟩
        | cons r rs => have h2 := h.2; unfold mEs at h2; cases h2
      | cons b bs =>
        cases qs with
        | nil => have h2 := h.2; unfold mEs at h2; cases h2
        | cons r rs =>
          have zr := sAnd (.cons b bs) C E X (r :: rs) p O h.2
          exact ⟨s_and za.1 zr.1, s_andW za.2 zr.2⟩
theorem sOr : ∀ (es : Es) (C : Ctx) (E : XW) (X : Cx) (pes : List Expr) (p : Pos), Okx C F sc E X → mEs es C pes = true → PE X (.BoolOp .Or pes p) (tE X.K sc E (evOr F sc es)) ∧ PW X (.BoolOp .Or pes p) (tT X.K sc E fun σ S => (evOr F sc es σ S).bd (truU sc))
  | .nil, C, E, X, pes, p, O, h => ⟨s_bad, fun _ _ _ _ _ _ _ ⟨_, _, _, _, _, w⟩ => w.elim⟩
  | .cons a as, C, E, X, pes, p, O, h => by
    cases pes with
    | nil => unfold mEs at h; cases h
    | cons q qs =>
      unfold mEs at h
      rw [Bool.and_eq_true] at h
      have za := sE a C E X q O h.1
      cases as with
      | nil =>
        cases qs with
        | nil => exact ⟨pe_one za.1, pw_or1 za.2⟩
        | cons r rs => have h2 := h.2; unfold mEs at h2; cases h2
      | cons b bs =>
        cases qs with
        | nil => have h2 := h.2; unfold mEs at h2; cases h2
        | cons r rs =>
          have zr := sOr (.cons b bs) C E X (r :: rs) p O h.2
          exact ⟨s_or za.1 zr.1, s_orW za.2 zr.2⟩
theorem sTs : ∀ (es : Es) (C : Ctx) (E : XW) (X : Cx) (pes : List Expr), Okx C F sc E X → mEs es C pes = true → PTs X pes (tT X.K sc E (evTs F sc es))
  | .nil, C, E, X, pes, O, h => by
    cases pes with
    | nil => exact pts_imp pts_nil fun σ H Q ⟨ρ, σu, S, hS, hE, q⟩ => q _ _ Kp.refl hS rfl
    | cons p ps => unfold mEs at h; cases h
  | .cons a as, C, E, X, pes, O, h => by
    cases pes with
    | nil => unfold mEs at h; cases h
    | cons p ps =>
      unfold mEs at h
      rw [Bool.and_eq_true] at h
      cases as with
      | nil =>
        cases ps with
        | nil => exact pts_one (sE a C E X p O h.1).2
        | cons r rs => have h2 := h.2; unfold mEs at h2; cases h2
      | cons b bs => exact fun _ _ _ _ _ _ ⟨_, _, _, _, _, w⟩ => w.elim
theorem sI : ∀ (it : I) (C : Ctx) (E : XW) (X : Cx) (pe : Expr), Okx C F sc E X → ∀ (tg : Expr), mI it C pe = true → (!it.pairs || isTupE tg) = true → PI X tg pe (tI X.K sc E (evI F sc it))
  | .seq e, C, E, X, pe, O, tg, h, _ => s_seq (sE e C E X pe O h).1
  | .rng1 a, C, E, X, pe, O, tg, h, _ => by
    unfold mI at h
    split at h
    · rename_i fn v p e
      have e := rCall_inv e
      subst e
      split at h
      · rename_i x q e
        have e := rName_inv e
        subst e
        rw [Bool.and_eq_true, Bool.and_eq_true] at h
        have e := of_decide_eq_true h.1.1
        subst e
        have bt := O.blt h.1.2
        exact s_rng1 bt.1 bt.2 (sE a C E X v O h.2).1 (fun e he => by rw [List.mem_singleton.mp he]; exact star_of (mE_nostar h.2))
      · cases h
    · cases h
  | .rng2 a b, C, E, X, pe, O, tg, h, _ => by
    unfold mI at h
    split at h
    · rename_i fn v w p e
      have e := rCall_inv e
      subst e
      split at h
      · rename_i x q e
        have e := rName_inv e
        subst e
        rw [Bool.and_eq_true, Bool.and_eq_true, Bool.and_eq_true] at h
        have e := of_decide_eq_true h.1.1.1
        subst e
        have bt := O.blt h.1.1.2
        refine s_rng2 bt.1 bt.2 (sE a C E X v O h.1.2).1 (sE b C E X w O h.2).1 (fun e he => ?_)
        rcases List.mem_cons.mp he with z | z
        · rw [z]; exact star_of (mE_nostar h.1.2)
        · rw [List.mem_singleton.mp z]; exact star_of (mE_nostar h.2)
      · cases h
    · cases h
  | .zip a b, C, E, X, pe, O, tg, h, ht => by
    have ht : isTupE tg = true := ht
    obtain ⟨es, kk, tp, rfl⟩ := isTupE_inv ht
    unfold mI at h
    split at h
    · rename_i fn v w p e
      have e := rCall_inv e
      subst e
      split at h
      · rename_i x q e
        have e := rName_inv e
        subst e
        rw [Bool.and_eq_true, Bool.and_eq_true, Bool.and_eq_true] at h
        have e := of_decide_eq_true h.1.1.1
        subst e
        have bt := O.blt h.1.1.2
        refine s_zip bt.1 bt.2 (sE a C E X v O h.1.2).1 (sE b C E X w O h.2).1 (fun e he => ?_)
        rcases List.mem_cons.mp he with z | z
        · rw [z]; exact star_of (mE_nostar h.1.2)
        · rw [List.mem_singleton.mp z]; exact star_of (mE_nostar h.2)
      · cases h
    · cases h
end
end
end Ev

set_option Elab.async false
set_option linter.all false
set_option maxRecDepth 100000
set_option maxHeartbeats 2000000
namespace Ev
open PySem L2
open PyProof.Rows hiding St
def qAsg : Stmt → Option (List Expr × Expr × Pos) | .Assign t v p => some (t, v, p) | _ => none
def qAug : Stmt → Option (Expr × Operator × Expr) | .AugAssign t o v _ => some (t, o, v) | _ => none
def qExpr : Stmt → Option (Expr × Pos) | .Expr v p => some (v, p) | _ => none
def qRet : Stmt → Option (Option Expr) | .Return v _ => some v | _ => none
def qIf : Stmt → Option (Expr × List Stmt × List Stmt) | .If c a b _ => some (c, a, b) | _ => none
def qWhl : Stmt → Option (Expr × List Stmt × List Stmt) | .While c a b _ => some (c, a, b) | _ => none
def qFor : Stmt → Option (Expr × Expr × List Stmt × List Stmt) | .For t i a b _ => some (t, i, a, b) | _ => none
def qRse : Stmt → Option (Expr × Pos) | .Raise (some e) none p => some (e, p) | _ => none
def qTri : Stmt → Option (List Stmt × Expr × Stmt × List Stmt × Pos × Pos) | .Try b [.ExceptHandler (some t) none (s :: ss) hp] [] [] p => some (b, t, s, ss, hp, p) | _ => none
theorem qRse_inv {s : Stmt} {e : Expr} {p : Pos} (h : qRse s = some (e, p)) : s = .Raise (some e) none p := by
  unfold qRse at h
  split at h
  · cases h; rfl
  · cases h
theorem qTri_inv {s : Stmt} {b : List Stmt} {t : Expr} {s0 : Stmt} {ss : List Stmt} {hp p : Pos} (h : qTri s = some (b, t, s0, ss, hp, p)) : s = .Try b [.ExceptHandler (some t) none (s0 :: ss) hp] [] [] p := by
  unfold qTri at h
  split at h
  · cases h; rfl
  · cases h
def qBrk : Stmt → Bool | .Break _ => true | _ => false
def qCnt : Stmt → Bool | .Continue _ => true | _ => false
def qPas : Stmt → Bool | .Pass _ => true | _ => false
theorem qAsg_inv {s : Stmt} {t : List Expr} {v : Expr} {p : Pos} (h : qAsg s = some (t, v, p)) : s = .Assign t v p := by cases s <;> cases h; rfl
theorem qAug_inv {s : Stmt} {t v : Expr} {o : Operator} (h : qAug s = some (t, o, v)) : ∃ p, s = .AugAssign t o v p := by cases s <;> cases h; exact ⟨_, rfl⟩
theorem qExpr_inv {s : Stmt} {v : Expr} {p : Pos} (h : qExpr s = some (v, p)) : s = .Expr v p := by cases s <;> cases h; rfl
theorem qRet_inv {s : Stmt} {v : Option Expr} (h : qRet s = some v) : ∃ p, s = .Return v p := by cases s <;> cases h; exact ⟨_, rfl⟩
theorem qIf_inv {s : Stmt} {c : Expr} {a b : List Stmt} (h : qIf s = some (c, a, b)) : ∃ p, s = .If c a b p := by cases s <;> cases h; exact ⟨_, rfl⟩
theorem qWhl_inv {s : Stmt} {c : Expr} {a b : List Stmt} (h : qWhl s = some (c, a, b)) : ∃ p, s = .While c a b p := by cases s <;> cases h; exact ⟨_, rfl⟩
theorem qFor_inv {s : Stmt} {t i : Expr} {a b : List Stmt} (h : qFor s = some (t, i, a, b)) : ∃ p, s = .For t i a b p := by cases s <;> cases h; exact ⟨_, rfl⟩
theorem qBrk_inv {s : Stmt} (h : qBrk s = true) : ∃ p, s = .Break p := by cases s <;> first | exact ⟨_, rfl⟩ | cases h
theorem qCnt_inv {s : Stmt} (h : qCnt s = true) : ∃ p, s = .Continue p := by cases s <;> first | exact ⟨_, rfl⟩ | cases h
theorem qPas_inv {s : Stmt} (h : qPas s = true) : ∃ p, s = .Pass p := by cases s <;> first | exact ⟨_, rfl⟩ | cases h

/-- name = [..]: stored within the comprehension's frame -/
def swLc (C : Ctx) (tg v : Expr) : Bool := match rName tg, rLc v with
  | some (y, py), some (_, _, scope, p) => (match C.sc.names.lookup y with | some .local => true | _ => false) && (py.line == p.line) && !(scope.names.any fun (n, k) => n == y && (k == .local || k == .cell))
  | _, _ => false
/-- .. not so -/
def noLcLocal (C : Ctx) (tg : Expr) : Bool := match rName tg with
  | some (y, _) => (match C.sc.names.lookup y with | some .cell => true | _ => false)
  | _ => false
def isG1 : G → Bool | .nm _ => true | _ => false
mutual
def mT : T → Ctx → Stmt → Bool
  | .asg g e, C, st => match qAsg st with
    | some ([tg], v, _) => mG C g tg && mE e C v && ((!isLc v && (isG1 g || !isTupE v)) || (isG1 g && ((rLc v).isSome && (swLc C tg v || noLcLocal C tg))))
    | _ => false
  | .cell i as, C, st => match qAsg st with
    | some ([tg], v, _) => mNm C i tg && (match rLst v with
      | some es => mEs as C es
      | none => false)
    | _ => false
  | .aug i o e, C, st => match qAug st with
    | some (tg, p, v) => mNm C i tg && decide (p = o.op) && mE e C v && (decide (o = .add) || decide (o = .sub))
    | none => false
  | .app i e, C, st => match qExpr st with
    | some (v, _) => (match rCall v with
      | some (f, [a], [], cpos) => (match rAttr f with
        | some (o, m, apos) => (match rName o with
          | some (x, _) => decide (m = "append") && decide (C.N[i]? = some x) && C.vis x && okN x && (apos.endLine == cpos.line) && mE e C a
          | none => false)
        | none => false)
      | _ => false)
    | none => false
  | .drop e, C, st => match qExpr st with
    | some (v, _) => mE e C v && !isLc v
    | none => false
  | .ret e, C, st => match qRet st with
    | some (some v) => mE e C v
    | _ => false
  | .retN, C, st => match qRet st with
    | some none => true
    | _ => false
  | .ife c a b, C, st => match qIf st with
    | some (pc, pa, pb) => mE c C pc && mTs a C pa && mTs b C pb
    | none => false
  | .whl c b, C, st => match qWhl st with
    | some (pc, pb, []) => C.cm && mE c C pc && mTs b C pb
    | _ => false
  | .rse c as, C, st => match qRse st with
    | some (e, _) => (match rCall e with
      | some (fn, args, [], _) => (match rName fn with
        | some (x, _) => C.cm && C.rs && decide (x = c) && C.glb x && okN x && C.xc x && mEs as C args && !args.isEmpty
        | none => false)
      | _ => false)
    | none => false
  | .tri b c cs h, C, st => match qTri st with
    | some (pb, t, s, ss, _, _) => (match rName t with
      | some (x, _) => C.cm && decide (x = c) && C.glb x && okN x && C.xc x && (cs.all fun d => C.xp d c) && mTs b { C with rs := false } pb && mTs h { C with cm := false, rs := false } (s :: ss)
      | none => false)
    | none => false
  | .for g it b, C, st => match qFor st with
    | some (tg, iter, pb, []) => C.cm && mG C g tg && mI it C iter && mTs b C pb && noset iter && (!it.pairs || isTupE tg)
    | _ => false
  | .brk, _, st => qBrk st
  | .cnt, _, st => qCnt st
  | .pas, _, st => qPas st
  | .bad, _, _ => true
def mTs : Ts → Ctx → List Stmt → Bool
  | .nil, _, sts => sts.isEmpty
  | .cons s r, C, sts => match sts with
    | [] => false
    | p :: ps => mT s C p && mTs r C ps
end
structure Okf (C : Ctx) (F : Nat → List U → Sto → R U) (sc : List Int) (E : XW) (X : Cx) : Prop extends Okx C F sc E X where
  hsc : X.env.scope = C.sc
  kind : C.sc.kind = .function
  hp : C.cm = true → PassesOwn (model X.prog X.w) X.A X.env X.xe
  hx : X.ex = []
  hst : X.stack = X.env :: X.outer
  hfr : X.env.frame = some X.env.locals
section
variable {F : Nat → List U → Sto → R U} {sc : List Int} {E : XW} {fu : Nat}
theorem stores_name {X : Cx} {x : Str} {p : Pos} {v : Expr} : swappedStores [.Name x p] v X.env = pure none := by cases v <;> rfl
theorem stores_tup {X : Cx} {tg v : Expr} (h : isTupE v = false) : swappedStores [tg] v X.env = pure none := by
  cases v <;> first | (cases tg <;> rfl) | cases h
theorem asg_ok {C : Ctx} {X : Cx} {g : G} {e : Ev.E} {tg v : Expr} {p : Pos} (O : Okf C F sc E X) (hg : mG C g tg = true) (he : mE e C v = true) (h : ((!isLc v && (isG1 g || !isTupE v)) || (isG1 g && ((rLc v).isSome && (swLc C tg v || noLcLocal C tg)))) = true) :
    PS X (.Assign [tg] v p) (tS X.K sc E (gAsg g (ev F sc e))) := by
  have pg := mG_ok O.toOkx hg
  have pe := (sE e C E X v O.toOkx he).1
  have nd : X.N.Nodup := by rw [O.hN]; exact O.nd
  rw [Bool.or_eq_true] at h
  rcases h with h | h
  · rw [Bool.and_eq_true, Bool.not_eq_true'] at h
    have h1 : swapsWithSole [tg] v p.line X.env = pure false := swaps_of h.1
    have h2 := h.2
    rw [Bool.or_eq_true] at h2
    cases g with
    | nm i =>
      obtain ⟨x, q, rfl, _⟩ := mNm_ok O.toOkx (show mNm C i tg = true from hg)
      exact t_asg pe pg h1 stores_name rfl
    | tp is =>
      rcases h2 with z | z
      · cases z
      · rw [Bool.not_eq_true'] at z
        have hg' : (match rTup tg with | some ts => C.cm && mNms C is ts | none => false) = true := hg
        split at hg'
        · rename_i ts e1
          obtain ⟨k, q, rfl⟩ := rTup_inv e1
          exact t_asg pe pg h1 (stores_tup z) rfl
        · cases hg'
  · rw [Bool.and_eq_true, Bool.and_eq_true] at h
    cases g with
    | tp is => cases h.1
    | nm i =>
      obtain ⟨x, q, rfl, hi, hl, hf⟩ := mNm_ok O.toOkx (show mNm C i tg = true from hg)
      obtain ⟨h0, h1, h2⟩ := h
      cases e1 : rLc v with
      | none => rw [e1] at h1; cases h1
      | some r =>
        obtain ⟨elt, gens, scope, p1⟩ := r
        have e2 := rLc_inv e1
        subst e2
        rw [Bool.or_eq_true] at h2
        rcases h2 with h2 | h2
        · -- within the comprehension
          unfold swLc at h2
          simp only [rName, rLc] at h2
          rw [Bool.and_eq_true, Bool.and_eq_true, Bool.not_eq_true'] at h2
          obtain ⟨⟨h3, h4⟩, h5⟩ := h2
          have hy : X.env.scope.names.lookup x = some .local := by
            rw [O.hsc]
            split at h3
            · assumption
            · cases h3
          cases e with
          | lc e g2 it ts =>
            unfold mE at he
            simp only [rLc] at he
            split at he
            · rename_i elt' gen scope' p' ee
              cases ee
              obtain ⟨tg2, iter, ifs, as⟩ := gen
              dsimp only at he
              rw [Bool.and_eq_true, Bool.and_eq_true, Bool.and_eq_true, Bool.and_eq_true, Bool.and_eq_true, Bool.and_eq_true, Bool.and_eq_true, Bool.and_eq_true] at he
              obtain ⟨⟨⟨⟨⟨⟨⟨⟨kc, k0⟩, k1⟩, k2⟩, k3⟩, k4⟩, k5⟩, k6⟩, k7⟩ := he
              have e0 := of_decide_eq_true k0
              subst e0
              have b0 := blkOk_by k5
              have O' := O.toOkx
              have bk : BlkOk X.N X.env.scope scope (ownOf C.N g2) := ⟨b0.kind, b0.uniq, by rw [O.hN]; exact b0.ix, fun y hy z => O.cf y.1 (b0.free y hy z), by rw [O.hN]; exact b0.own⟩
              have main := ps_setLc (X := X) (i := i) (y := x) (py := q) (pos := p1) (spos := p) (elt := elt) (wi := tI X.K sc E (evI F sc it)) (g := gPut X.K sc g2) (tt := tT X.K sc noX (evTs F sc ts)) (te := tE X.K sc noX (ev F sc e)) (O.calm kc) nd hi hy
                (sw_true (by rw [O.hsc]; exact O.kind) hy h4 h5) (sI it C E X iter O' tg2 k1 k7) bk (fun s H Ca cl fp => mG_ok (O'.blk scope s H Ca cl fp) k2) (fun s H Ca cl fp => sTs ts _ _ _ ifs (O'.blk scope s H Ca cl fp) k4)
                (fun s H Ca cl fp => (sE e _ _ _ elt (O'.blk scope s H Ca cl fp) k3).1) (folded_of k6)
              rw [ownOf_snd] at main
              refine PS.imp main fun D σ H hh => ?_
              have hh := asg_imp D σ H hh
              obtain ⟨ρ, σu, S, hS, hE, w⟩ := hh
              refine lc_imp σ H _ ⟨ρ, σu, S, hS, hE, w.mono (fun u S' q' v H' k s r => ?_) fun _ _ z => z⟩
              obtain ⟨ρ2, σu2, u2, σu2', hE2, r2, e3, q3⟩ := q' v H' k s r
              cases e3
              exact q3 _ (hE2.set i r2) fun j hj => List.getElem?_set_ne fun z => hj (List.mem_singleton.mpr z.symm)
            · cases he
          | bad => exact fun _ _ _ _ _ _ ⟨_, _, _, _, _, w⟩ => w.elim
          | _ => (unfold mE at he; simp [rName, rConst, rBin, rUn, rCmp, rBool, rIf, rTup, rLst, rSub, rCall] at he)
        · unfold noLcLocal at h2
          simp only [rName] at h2
          have hy : X.env.kindOf x = some .cell := by
            show X.env.scope.names.lookup x = _
            rw [O.hsc]
            split at h2
            · assumption
            · cases h2
          refine t_asg pe pg ?_ stores_name rfl
          show swapsWith (.ListComp elt gens scope p1) (some (.Name x q)) p.line X.env = pure false
          unfold swapsWith
          simp only [hy]
          simp [show (NameKind.cell == NameKind.local) = false from rfl]
mutual
theorem sT : ∀ (t : T) (C : Ctx) (E : XW) (X : Cx) (st : Stmt), Okf C F sc E X → mT t C st = true → PS X st (tS X.K sc E (ex F sc fu t))
  | .asg g e, C, E, X, st, O, h => by
    unfold mT at h
    split at h
    · rename_i tg v p e1
      have e1 := qAsg_inv e1
      subst e1
      rw [Bool.and_eq_true, Bool.and_eq_true] at h
      exact asg_ok O h.1.1 h.1.2 h.2
    · cases h
  | .cell i as, C, E, X, st, O, h => by
    unfold mT at h
    split at h
    · rename_i tg v p e1
      have e1 := qAsg_inv e1
      subst e1
      rw [Bool.and_eq_true] at h
      obtain ⟨x, q, rfl, hi, hl, hf⟩ := mNm_ok O.toOkx h.1
      have h2 := h.2
      split at h2
      · rename_i es e2
        obtain ⟨p2, rfl⟩ := rLst_inv e2
        have nd : X.N.Nodup := by rw [O.hN]; exact O.nd
        exact t_cell nd hi hl hf (sEs as C E X es O.toOkx h2)
      · cases h2
    · cases h
  | .aug i o e, C, E, X, st, O, h => by
    unfold mT at h
    split at h
    · rename_i tg p v e1
      obtain ⟨_, rfl⟩ := qAug_inv e1
      rw [Bool.and_eq_true, Bool.and_eq_true, Bool.and_eq_true] at h
      obtain ⟨x, q, rfl, hi, hl, hf⟩ := mNm_ok O.toOkx h.1.1.1
      have e2 := of_decide_eq_true h.1.1.2
      subst e2
      have nd : X.N.Nodup := by rw [O.hN]; exact O.nd
      have h2 := h.2
      rw [Bool.or_eq_true] at h2
      exact t_aug nd hi hl hf (sE e C E X v O.toOkx h.1.2).1 (h2.imp of_decide_eq_true of_decide_eq_true)
    · cases h
  | .app i e, C, E, X, st, O, h => by
    unfold mT at h
    split at h
    · rename_i v p e1
      have e1 := qExpr_inv e1
      subst e1
      split at h
      · rename_i f a cpos e2
        have e2 := rCall_inv e2
        subst e2
        split at h
        · rename_i o m apos e3
          have e3 := rAttr_inv e3
          subst e3
          split at h
          · rename_i x px e4
            have e4 := rName_inv e4
            subst e4
            rw [Bool.and_eq_true, Bool.and_eq_true, Bool.and_eq_true, Bool.and_eq_true, Bool.and_eq_true] at h
            obtain ⟨⟨⟨⟨⟨h0, h1⟩, h2⟩, h3⟩, h4⟩, h5⟩ := h
            have e5 := of_decide_eq_true h0
            subst e5
            have k := okN_ok h3
            exact t_app (by rw [O.hN]; exact of_decide_eq_true h1) (O.vis x h2) k.1 k.2 (sE e C E X a O.toOkx h5).1 (fun e he => by rw [List.mem_singleton.mp he]; exact star_of (mE_nostar h5)) h4
          · cases h
        · cases h
      · cases h
    · cases h
  | .drop e, C, E, X, st, O, h => by
    unfold mT at h
    split at h
    · rename_i v p e1
      have e1 := qExpr_inv e1
      subst e1
      rw [Bool.and_eq_true, Bool.not_eq_true'] at h
      exact t_drop (sE e C E X v O.toOkx h.1).1 (swaps_of h.2)
    · cases h
  | .ret e, C, E, X, st, O, h => by
    unfold mT at h
    split at h
    · rename_i v e1
      obtain ⟨_, rfl⟩ := qRet_inv e1
      exact t_ret (sE e C E X v O.toOkx h).1
    · cases h
  | .retN, C, E, X, st, O, h => by
    unfold mT at h
    split at h
    · rename_i e1
      obtain ⟨_, rfl⟩ := qRet_inv e1
      exact t_retN
    · cases h
  | .ife c a b, C, E, X, st, O, h => by
    unfold mT at h
    split at h
    · rename_i pc pa pb e1
      obtain ⟨_, rfl⟩ := qIf_inv e1
      rw [Bool.and_eq_true, Bool.and_eq_true] at h
      exact t_if (sE c C E X pc O.toOkx h.1.1).2 (sTt a C E X pa O h.1.2) (sTt b C E X pb O h.2)
    · cases h
  | .whl c b, C, E, X, st, O, h => by
    unfold mT at h
    split at h
    · rename_i pc pb e1
      obtain ⟨_, rfl⟩ := qWhl_inv e1
      rw [Bool.and_eq_true, Bool.and_eq_true] at h
      exact t_whl (O.hp h.1.1) (sE c C E X pc O.toOkx h.1.2).2 (sTt b C E X pb O h.2) fu
    · cases h
  | .rse c as, C, E, X, st, O, h => by
    unfold mT at h
    split at h
    · rename_i e p e1
      have e1 := qRse_inv e1
      subst e1
      split at h
      · rename_i fn args cp e2
        have e2 := rCall_inv e2
        subst e2
        split at h
        · rename_i x q e3
          have e3 := rName_inv e3
          subst e3
          simp only [Bool.and_eq_true] at h
          obtain ⟨⟨⟨⟨⟨⟨⟨hc, hr⟩, hx⟩, hg⟩, hk⟩, hxc⟩, ha⟩, hn⟩ := h
          have hx := of_decide_eq_true hx
          subst hx
          obtain ⟨D, hD, _⟩ := O.cls _ hxc
          cases args with
          | nil => cases hn
          | cons a as' => exact t_rse (O.calm hc) (O.xr hr) hD O.hx (O.glb _ hg) (okN_ok hk).1 (sEs as C E X (a :: as') O.toOkx ha) (mEs_star ha)
        · cases h
      · cases h
    · cases h
  | .tri b c cs hd, C, E, X, st, O, h => by
    unfold mT at h
    split at h
    · rename_i pb t s ss hp p e1
      have e1 := qTri_inv e1
      subst e1
      split at h
      · rename_i x q e2
        have e2 := rName_inv e2
        subst e2
        simp only [Bool.and_eq_true] at h
        obtain ⟨⟨⟨⟨⟨⟨⟨hc, hx⟩, hg⟩, hk⟩, hxc⟩, hcs⟩, h1⟩, h2⟩ := h
        have hx := of_decide_eq_true hx
        subst hx
        obtain ⟨D, hD, hmg⟩ := O.cls _ hxc
        refine t_tri O.hx O.hst O.hfr (O.glb _ hg) (okN_ok hk).1 hmg (fun d hd C' hC' => ?_) (fun pn xe Et hxa hpo => ?_) fun e xe => ?_
        · obtain ⟨y, hy, ey⟩ := List.any_eq_true.mp hd
          have ey := of_decide_eq_true ey
          subst ey
          obtain ⟨D', hm', hall⟩ := O.xm _ _ (List.all_eq_true.mp hcs y hy)
          have := hmg.symm.trans hm'
          cases this
          exact hall C' hC'
        · exact sTt b { C with rs := false } Et { X with pn := pn, xe := xe } pb
            { hN := O.hN, nd := O.nd, vis := O.vis, loc := O.loc, glb := O.glb, cf := O.cf, calm := O.calm, un := O.un, gs := O.gs, bt := O.bt, fn := O.fn, xa := hxa, ex := .inl O.hx, xr := (fun z => by cases z), cls := O.cls, xm := O.xm, hsc := O.hsc, kind := O.kind, hp := (fun _ => hpo), hx := O.hx, hst := O.hst, hfr := O.hfr } h1
        · exact sTt hd { C with cm := false, rs := false } noX { X with A := X.A.mark (some (.ref e)), calm := false, xe := xe } (s :: ss)
            { hN := O.hN, nd := O.nd, vis := O.vis, loc := O.loc, glb := O.glb, cf := O.cf, calm := (fun z => by cases z), un := O.un, gs := O.gs, bt := O.bt, fn := (fun z => by cases z), xa := (fun _ _ _ _ _ _ _ _ _ _ z => z.elim), ex := .inr rfl, xr := (fun z => by cases z), cls := O.cls, xm := O.xm, hsc := O.hsc, kind := O.kind, hp := (fun z => by cases z), hx := O.hx, hst := O.hst, hfr := O.hfr } h2
      · cases h
    · cases h
  | .for g it b, C, E, X, st, O, h => by
    unfold mT at h
    split at h
    · rename_i tg iter pb e1
      obtain ⟨_, rfl⟩ := qFor_inv e1
      rw [Bool.and_eq_true, Bool.and_eq_true, Bool.and_eq_true, Bool.and_eq_true, Bool.and_eq_true] at h
      exact t_for (O.hp h.1.1.1.1.1) (O.calm h.1.1.1.1.1) (sI it C E X iter O.toOkx tg h.1.1.1.2 h.2) (mG_ok O.toOkx h.1.1.1.1.2) (sTt b C E X pb O h.1.1.2) (folded_of h.1.2)
    · cases h
  | .brk, C, E, X, st, O, h => by
    obtain ⟨_, rfl⟩ := qBrk_inv (show qBrk st = true from h)
    exact t_brk
  | .cnt, C, E, X, st, O, h => by
    obtain ⟨_, rfl⟩ := qCnt_inv (show qCnt st = true from h)
    exact t_cnt
  | .pas, C, E, X, st, O, h => by
    obtain ⟨_, rfl⟩ := qPas_inv (show qPas st = true from h)
    exact t_pass
  | .bad, C, E, X, st, O, h => t_bad
theorem sTt : ∀ (t : Ts) (C : Ctx) (E : XW) (X : Cx) (sts : List Stmt), Okf C F sc E X → mTs t C sts = true → PSs X sts (tS X.K sc E (exs F sc fu t))
  | .nil, C, E, X, sts, O, h => by
    cases sts with
    | nil => exact t_nil
    | cons p ps => unfold mTs at h; cases h
  | .cons s r, C, E, X, sts, O, h => by
    cases sts with
    | nil => unfold mTs at h; cases h
    | cons p ps =>
      unfold mTs at h
      rw [Bool.and_eq_true] at h
      exact t_cons (sT s C E X p O h.1) (sTt r C E X ps O h.2)
end
end
/-! ### a def of the text -/
structure FnAt (K : PySem.W.Frag) (mg : Str → Option Value) (G : List (Str × PyData)) (fs : Nat → Option Str) (bs : List Str) (xs : List Str) (xm : List (Str × Str)) (fn : Fn) : Prop where
  ex : ∃ st fa fd, Fun K fn.name fn.name st fa fd ∧ mg fn.name = some (.ref fa) ∧ FnScope fn.N (fn.N.take fn.ps) (defScope st) ∧ Binds K fd (fn.N.take fn.ps) [] ∧ mTs fn.body ⟨fn.N, defScope st, G, fs, bs, true, true, xs, xm⟩ (defBody st) = true ∧ (fn.N.take fn.ps).length = fn.ps
theorem en_start {K : PySem.W.Frag} {sc : List Int} {ρ : Ad} {H : Hp} {us : List U} {vs : List V} {N : List Str} (r : RUs K sc ρ H us vs) : EnR K sc ρ H (entry N.length us) (L2.start N vs) := by
  have hl : us.length = vs.length := Paired.length r
  refine ⟨by unfold entry L2.start; simp [hl], fun i u e => ?_⟩
  unfold entry at e
  by_cases hi : i < us.length
  · rw [List.getElem?_append_left (by simpa using hi), List.getElem?_map] at e
    cases eu : us[i]? with
    | none => rw [eu] at e; cases e
    | some w' =>
      rw [eu] at e
      cases e
      have : ∀ {us : List U} {vs : List V} {i : Nat} {u : U}, Paired (RU K sc ρ H) us vs → us[i]? = some u → ∃ v, vs[i]? = some v ∧ RU K sc ρ H u v := by
        intro us vs i u r
        induction r generalizing i with
        | nil => intro e; cases e
        | cons a b ih =>
          intro e
          cases i with
          | zero => cases e; exact ⟨_, rfl, a⟩
          | succ i => exact ih e
      obtain ⟨v, ev, rv⟩ := this r eu
      refine ⟨v, ?_, rv⟩
      unfold L2.start
      rw [List.getElem?_append_left (by rw [List.length_map, ← hl]; exact hi), List.getElem?_map, ev]
      rfl
  · rw [List.getElem?_append_right (by simpa using hi), List.getElem?_replicate] at e
    split at e <;> cases e
theorem run_len {sc : List Int} {fu : Nat} {tab : Nat → Option Fn} {n f : Nat} {fn : Fn} {us : List U} {S : Sto} {P : U → Sto → Prop} {Px : Str → Sto → Prop} (hf : tab f = some fn) (e : (run sc fu tab n f us S).wp P Px) : us.length = fn.ps := by
  cases n with
  | zero => exact e.elim
  | succ n =>
    unfold run at e
    rw [hf] at e
    dsimp only at e
    split at e
    · assumption
    · exact e.elim
section
variable {P : Program} {w : World} {K : PySem.W.Frag} {mg : Str → Option Value} {base : Heap} {sc : List Int} {fu : Nat} {tab : Nat → Option Fn} {G : List (Str × PyData)} {bs xs : List Str} {xm : List (Str × Str)}
theorem shrink {ρ ρ' : Ad} {H H' : Hp} {S S1 : Sto} (x : Ex ρ H ρ' H') (hS : StR K ρ H S) (h : StR K ρ' H' S1) : StR K ρ H' (S1.take S.length) := by
  obtain ⟨m, e, f⟩ := x.c
  obtain ⟨m2, e2, f2⟩ := x.x
  have hl := h.len
  have hl0 := hS.len
  have hle : S.length ≤ S1.length := by rw [← hl, e, List.length_append, hl0]; omega
  refine ⟨by rw [List.length_take, hl0]; omega, hS.nd, fun n xs en => ?_, fun a ha => ?_⟩
  · have hn : n < S.length := by
      have := (List.getElem?_eq_some_iff.mp en).1
      rw [List.length_take] at this
      omega
    rw [List.getElem?_take_of_lt hn] at en
    obtain ⟨a, vs, ea, ha, q⟩ := h.cs n xs en
    refine ⟨a, vs, ?_, ha, DRs.grow (fun b hb => .inl ?_) _ _ q⟩
    · rw [e, List.getElem?_append_left (by rw [hl0]; exact hn)] at ea
      exact ea
    · rcases Ad.mem.mp hb with z | z
      · exact Ad.mem.mpr (.inl (by rw [e]; exact List.mem_append_left _ z))
      · exact Ad.mem.mpr (.inr (by rw [e2]; exact List.mem_append_left _ z))
  · obtain ⟨h1, o, h2⟩ := h.hid a (by rw [e2]; exact List.mem_append_left _ ha)
    exact ⟨fun z => h1 (by rw [e]; exact List.mem_append_left _ z), o, h2⟩
theorem frz_ok {ρ ρ' : Ad} {H H' : Hp} {S S1 : Sto} {u0 u : U} {v : V} (x : Ex ρ H ρ' H') (hS : StR K ρ H S) (h : StR K ρ' H' S1) (r : RU K sc ρ' H' u0 v) (e0 : frz S.length S1 u0 = some u) : RU K sc ρ H' u v := by
  obtain ⟨m, e, f⟩ := x.c
  obtain ⟨m2, e2, f2⟩ := x.x
  have sub : ∀ b, b ∈ ρ.ex → b ∈ ρ'.ex := fun b hb => by
    rcases Ad.mem.mp hb with z | z
    · exact Ad.mem.mpr (.inl (by rw [e]; exact List.mem_append_left _ z))
    · exact Ad.mem.mpr (.inr (by rw [e2]; exact List.mem_append_left _ z))
  cases u0 with
  | d y =>
    cases e0
    exact DR.grow (fun b hb => .inl (sub b hb)) _ _ r
  | s =>
    cases e0
    obtain ⟨a, ea, ⟨na, ra⟩ | ra⟩ := r
    · exact ⟨a, ea, .inl ⟨fun z => na (sub a z), ra⟩⟩
    · exact ⟨a, ea, .inr ra⟩
  | c n =>
    obtain ⟨a, ea, rfl⟩ := r
    unfold frz at e0
    dsimp only at e0
    split at e0
    · rename_i hn
      cases e0
      refine ⟨a, ?_, rfl⟩
      rw [e, List.getElem?_append_left (by rw [hS.len]; exact hn)] at ea
      exact ea
    · rename_i hn
      cases en : S1[n]? with
      | none => rw [en] at e0; cases e0
      | some xs =>
        rw [en] at e0
        cases e0
        obtain ⟨a', vs, ea', ha, q⟩ := h.cs n xs en
        rw [ea] at ea'
        cases ea'
        refine .lst (.inl ha) (fun z => ?_) (DRs.grow (fun b hb => .inl (sub b hb)) _ _ q)
        rcases Ad.mem.mp z with z | z
        · obtain ⟨j, hj⟩ := List.getElem?_of_mem z
          have hj2 := (List.getElem?_eq_some_iff.mp hj).1
          have hj3 : ρ'.c[j]? = some a := by rw [e, List.getElem?_append_left hj2]; exact hj
          have := nd_ix h.nd ea hj3
          rw [hS.len] at hj2
          omega
        · have z' : a ∈ ρ'.x := by rw [e2]; exact List.mem_append_left _ z
          exact (h.hid a z').1 (List.mem_of_getElem? ea)
/-- the module's facts of the classes -/
structure ClsAt (K : PySem.W.Frag) (mg : Str → Option Value) (xs : List Str) (xm : List (Str × Str)) : Prop where
  cls : ∀ x, (xs.any fun y => decide (y = x)) = true → ∃ D, ClsOk K x D ∧ mg x = some (.ref D)
  xm : ∀ d c, (xm.any fun y => decide (y.1 = d) && decide (y.2 = c)) = true → ∃ D, mg c = some (.ref D) ∧ ∀ D', ClsOk K d D' → PySem.W.exmOne K (.ref D') (.ref D) = some true
/-- one def's body -/
theorem body_ok {k n f : Nat} {fn : Fn} {st : Stmt} {fa : Addr} {cdv : Value} {A : Around} {outer : List Env} {s : Shared} {H : Hp} {vs : List V} {Q : VK} {E : XK} {np : Nat} (hG : ∀ x c, G.lookup x = some c → ∃ v u, mg x = some u ∧ RelV v u ∧ ∀ ρ H, DR K ρ H v c) (hb : ∀ x ∈ bs, mg x = none) (hX : ClsAt K mg xs xm)
    (ih : ∀ (g : Nat) (y : Str), (tab g).map (·.name) = some y → ∃ fa fd ps, FnOk P w K mg base (CXm K P w) k fa fd ps (spOf K sc ps.length (run sc fu tab n g)) ∧ mg y = some (.ref fa) ∧ PySem.W.keepIn K (.ref fa) = true ∧ Binds K fd ps [] ∧ ∀ us S (P : U → Sto → Prop) (Px : Str → Sto → Prop), (run sc fu tab n g us S).wp P Px → us.length = ps.length)
    (hf : tab f = some fn) (hs : FnScope fn.N (fn.N.take fn.ps) (defScope st)) (hbody : mTs fn.body ⟨fn.N, defScope st, G, (fun f => (tab f).map (·.name)), bs, true, true, xs, xm⟩ (defBody st) = true)
    (hr : Room k (A.deeper (envOfC fn.name (defScope st) s.heap.objs.size fa cdv))) (h : spOf K sc np (run sc fu tab (n + 1) f) vs H Q E) :
    ∃ t, PSs (cxOf (CXm K P w) P w K mg base fn.N fn.name (defScope st) fa cdv A outer s H E) (defBody st) t ∧ t { nx := fun _ H' => Q .non H', rt := Q } (start fn.N vs) H := by
  obtain ⟨_, ρ, us, S, hS, hus, wp⟩ := h
  have O : Okf ⟨fn.N, defScope st, G, (fun f => (tab f).map (·.name)), bs, true, true, xs, xm⟩ (run sc fu tab n) sc (fun c _ H' => E (cv c) none H') (cxOf (CXm K P w) P w K mg base fn.N fn.name (defScope st) fa cdv A outer s H E) :=
    { hN := rfl, nd := hs.nd
      vis := fun x h => by
        unfold Ctx.vis at h
        dsimp only at h
        split at h
        · exact .inl (by assumption)
        · exact .inr (.inl (by assumption))
        · exact .inr (.inr (by assumption))
        · cases h
      loc := fun x h => by
        unfold Ctx.loc at h
        dsimp only at h
        split at h
        · exact ⟨.inl (by assumption), .inl rfl⟩
        · exact ⟨.inr (by assumption), .inl rfl⟩
        · cases h
      glb := fun x h => by
        unfold Ctx.glb at h
        dsimp only at h
        split at h
        · assumption
        · cases h
      cf := fun x h => h
      calm := fun _ => rfl
      un := hr.units
      gs := hG
      bt := hb
      fn := fun _ g y hy => by
        obtain ⟨fa', fd', ps', h1, h2, h3, h4, h5⟩ := ih g y hy
        exact ⟨k, fa', fd', ps', h1, hr, h2, h3, h4, h5⟩
      xa := air_fn
      ex := .inl rfl
      xr := fun _ => raw_fn
      cls := hX.cls
      xm := hX.xm
      hsc := rfl
      kind := hs.kind
      hp := fun _ => PassesOwn.leaving
      hx := rfl
      hst := rfl
      hfr := rfl }
  refine ⟨_, sTt (fu := fu) fn.body _ _ _ _ O hbody, ?_⟩
  unfold run at wp
  rw [hf] at wp
  dsimp only at wp
  split at wp
  · refine ⟨ρ, entry fn.N.length us, S, hS, en_start hus, ?_⟩
    obtain ⟨fl, S1, hr2, wp⟩ := bn_wp wp
    rw [hr2]
    cases fl with
    | ret u0 =>
      obtain ⟨u1, e5, q⟩ := of_bd wp
      exact fun v ρ' H' x s1 r1 => q v H' x.kp (shrink x hS s1) (frz_ok x hS s1 r1 e5)
    | nx σ2 => exact fun σ' ρ' H' x s1 n1 => wp .non H' x.kp (shrink x hS s1) DR.non
    | brk σ2 => exact wp.elim
    | cnt σ2 => exact wp.elim
    | exc c σ2 => exact fun σ' ρ' H' x s1 n1 => wp H' x.kp (shrink x hS s1)
  · exact wp.elim
theorem fun_okX {x qual : Str} {st : Stmt} {f : Addr} {fd : FuncData} {N ps : List Str} {k : Nat} {sp : Sp} {CX : CXT} (F : Fun K x qual st f fd) (S : FnScope N ps (defScope st)) (len : ∀ vs H Q E, sp vs H Q E → vs.length = ps.length)
    (hbody : ∀ (cdv : Value) (A : Around) (outer : List Env) (s : Shared) (H : Hp) (vs : List V) (Q : VK) (E : XK), Room k (A.deeper (envOfC qual (defScope st) s.heap.objs.size f cdv)) → sp vs H Q E →
      ∃ t, PSs (cxOf CX P w K mg base N qual (defScope st) f cdv A outer s H E) (defBody st) t ∧ t { nx := fun _ H' => Q .non H', rt := Q } (start N vs) H) : FnOk P w K mg base CX (k + 1) f fd ps sp := by
  obtain ⟨oc, od, kV, doc, pm, an, cdv, ct, osl, rfl, lk, hcd⟩ := F.ex
  exact fn_of lk hcd S len fun A outer s H vs Q E hr hsp => hbody cdv A outer s H vs Q E hr hsp
theorem run_ok (hG : ∀ x c, G.lookup x = some c → ∃ v u, mg x = some u ∧ RelV v u ∧ ∀ ρ H, DR K ρ H v c) (hb : ∀ x ∈ bs, mg x = none) (hX : ClsAt K mg xs xm) (ht : ∀ f fn, tab f = some fn → FnAt K mg G (fun f => (tab f).map (·.name)) bs xs xm fn) :
    ∀ (n f : Nat) (x : Str), (tab f).map (·.name) = some x → ∃ fa fd ps, FnOk P w K mg base (CXm K P w) n fa fd ps (spOf K sc ps.length (run sc fu tab n f)) ∧ mg x = some (.ref fa) ∧ PySem.W.keepIn K (.ref fa) = true ∧ Binds K fd ps [] ∧ ∀ us S (P : U → Sto → Prop) (Px : Str → Sto → Prop), (run sc fu tab n f us S).wp P Px → us.length = ps.length := by
  intro n
  induction n with
  | zero =>
    intro f x hx
    cases hf : tab f with
    | none => rw [hf] at hx; cases hx
    | some fn =>
      rw [hf] at hx
      cases hx
      obtain ⟨st, fa, fd, F, hm, hs, hbd, _, hl⟩ := (ht f fn hf).ex
      refine ⟨fa, fd, fn.N.take fn.ps, ⟨fun vs H Q E h => h.1, fun A outer s H args us vs Q E _ _ _ _ h => ?_⟩, hm, F.kp, hbd, fun us S P Px e => by rw [hl]; exact run_len hf e⟩
      obtain ⟨_, _, _, _, _, _, e⟩ := h
      exact e.elim
  | succ n ih =>
    intro f x hx
    cases hf : tab f with
    | none => rw [hf] at hx; cases hx
    | some fn =>
      rw [hf] at hx
      cases hx
      obtain ⟨st, fa, fd, F, hm, hs, hbd, hbody, hl⟩ := (ht f fn hf).ex
      refine ⟨fa, fd, fn.N.take fn.ps, ?_, hm, F.kp, hbd, fun us S P Px e => by rw [hl]; exact run_len hf e⟩
      exact fun_okX F hs (fun vs H Q E h => h.1) fun cdv A outer s H vs Q E hr h => body_ok hG hb hX ih hf hs hbody hr h
end
/-! ### the law -/
def spLaw (fu : Nat) (tab : Nat → Option Fn) (n f : Nat) (K : PySem.W.Frag) : Sp := fun vs H Q E => ∃ sc, spOf K sc 1 (run sc fu tab n f) vs H Q E
theorem law_ok {P : Program} {w : World} {K : PySem.W.Frag} {mg : Str → Option Value} {base : Heap} {fu : Nat} {tab : Nat → Option Fn} {G : List (Str × PyData)} {bs xs : List Str} {xm : List (Str × Str)} {n f : Nat} {x : Str} {fn : Fn}
    (hG : ∀ x c, G.lookup x = some c → ∃ v u, mg x = some u ∧ RelV v u ∧ ∀ ρ H, DR K ρ H v c) (hb : ∀ x ∈ bs, mg x = none) (hX : ClsAt K mg xs xm) (ht : ∀ f fn, tab f = some fn → FnAt K mg G (fun f => (tab f).map (·.name)) bs xs xm fn)
    (hf : tab f = some fn) (h1 : fn.N.take fn.ps = [x]) {fa : Addr} {fd : FuncData} {st : Stmt} (F : Fun K fn.name fn.name st fa fd) (hs : FnScope fn.N (fn.N.take fn.ps) (defScope st)) (hbody : mTs fn.body ⟨fn.N, defScope st, G, (fun f => (tab f).map (·.name)), bs, true, true, xs, xm⟩ (defBody st) = true) :
    FnOk P w K mg base (CXm K P w) (n + 1) fa fd [x] (spLaw fu tab (n + 1) f K) := by
  refine ⟨fun vs H Q E ⟨sc, h⟩ => h.1, fun A outer s H args us vs Q E hr he hbd hv ⟨sc, h⟩ => ?_⟩
  have ih := fun g y hy => run_ok (P := P) (w := w) (base := base) (sc := sc) (fu := fu) hG hb hX ht n g y hy
  have main : FnOk P w K mg base (CXm K P w) (n + 1) fa fd (fn.N.take fn.ps) (spOf K sc 1 (run sc fu tab (n + 1) f)) :=
    fun_okX F hs (fun vs H Q E h => by rw [h1]; exact h.1) fun cdv A outer s H vs Q E hr h => body_ok hG hb hX ih hf hs hbody hr h
  rw [h1] at main
  exact main.run A outer s H args us vs Q E hr he hbd hv h
theorem law_sp {fu : Nat} {tab : Nat → Option Fn} {n f : Nat} (main : ∀ ns : List Int, ns.length ≤ 63 → ∃ S', run ns fu tab n f [.s] [] = .ok (.d (.bool true)) S') (K : PySem.W.Frag) (H : Hp) (a : Addr) (ns : List Int) (hl : ns.length ≤ 63) (hS : SqL K H a (ns.map V.int)) :
    spLaw fu tab n f K [.ref a] H (fun v _ => v = .bl true) fun _ _ _ => False := by
  obtain ⟨S', e⟩ := main ns hl
  refine ⟨ns, rfl, ⟨[], []⟩, [.s], [], ⟨rfl, List.nodup_nil, fun n xs e => (by cases e), fun a ha => (by cases ha)⟩, .cons ⟨a, rfl, ?_⟩ .nil, ?_⟩
  · rcases hS with h | h
    · exact .inl ⟨(fun z => by cases z), h⟩
    · exact .inr fun H' => .inr h
  · rw [e]
    intro v H' _ _ r
    cases r
    rfl
theorem cx_none {K : PySem.W.Frag} {P : Program} {w : World} {H : Hp} {s : Shared} {e : Value} {s' : Shared} (h : CXm K P w [] H s (fun _ _ _ => False) e s') : False := by
  obtain ⟨_, _, _, _, _, _, _, _, _, _, _, _, _, _, _, _, z⟩ := h
  exact z
end Ev

set_option Elab.async false
set_option linter.all false
set_option maxRecDepth 100000
namespace Fns
open PySem Ev
def d0_is_whole : Fn := ⟨"is_whole", 3, ["thing", "least", "greatest"],
    (.cons (.ife (.or (.cons (.not (.isi (.var 0) .int)) (.cons (.isi (.var 0) .bool) .nil)))
      (.cons (.ret (.bl false)) .nil)
      .nil) (.cons (.ret (.chn .le .le (.var 1) (.var 0) (.var 2))) .nil))⟩
def d1_is_long : Fn := ⟨"is_long", 1, ["year"],
    (.cons (.ret (.cmp .eq (.bin .mod (.var 0) (.int 4)) (.int 0))) .nil)⟩
def d2_month_length : Fn := ⟨"month_length", 2, ["year", "month"],
    (.cons (.ife (.cmp .eq (.var 1) (.int 2))
      (.cons (.ret (.ife (.call 1 (.cons (.var 0) .nil)) (.int 29) (.int 28))) .nil)
      .nil) (.cons (.ret (.ife (.cmp .inn (.var 1) (.tup (.cons (.int 4) (.cons (.int 6) (.cons (.int 9) (.cons (.int 11) .nil)))))) (.int 30) (.int 31))) .nil))⟩
def d3_is_date : Fn := ⟨"is_date", 1, ["thing", "year", "month", "day"],
    (.cons (.ife (.or (.cons (.not (.isi (.var 0) .tuple)) (.cons (.cmp .ne (.blt .len (.cons (.var 0) .nil)) (.int 3)) .nil)))
      (.cons (.ret (.bl false)) .nil)
      .nil) (.cons (.asg (.tp [1, 2, 3]) (.var 0)) (.cons (.ife (.or (.cons (.not (.call 0 (.cons (.var 1) (.cons (.glob "FIRST_YEAR" (.int 2000)) (.cons (.glob "LAST_YEAR" (.int 2099)) .nil))))) (.cons (.not (.call 0 (.cons (.var 2) (.cons (.int 1) (.cons (.int 12) .nil))))) .nil)))
      (.cons (.ret (.bl false)) .nil)
      .nil) (.cons (.ret (.call 0 (.cons (.var 3) (.cons (.int 1) (.cons (.call 2 (.cons (.var 1) (.cons (.var 2) .nil))) .nil))))) .nil))))⟩
def d4_law_same : Fn := ⟨"_law_same", 2, ["_law_told", "_law_due", "_law_one", "_law_other"],
    (.cons (.ife (.isN false (.var 1))
      (.cons (.ret (.isN false (.var 0))) .nil)
      .nil) (.cons (.ife (.isi (.var 1) .bool)
      (.cons (.ret (.and (.cons (.isi (.var 0) .bool) (.cons (.cmp .eq (.var 0) (.var 1)) .nil)))) .nil)
      .nil) (.cons (.ife (.isi (.var 1) .tuple)
      (.cons (.ife (.or (.cons (.not (.isi (.var 0) .tuple)) (.cons (.cmp .ne (.blt .len (.cons (.var 0) .nil)) (.blt .len (.cons (.var 1) .nil))) .nil)))
      (.cons (.ret (.bl false)) .nil)
      .nil) (.cons (.ret (.blt .all (.cons (.lc (.call 4 (.cons (.var 2) (.cons (.var 3) .nil))) (.tp [2, 3]) (.zip (.var 0) (.var 1)) .nil) .nil))) .nil))
      .nil) (.cons (.ife (.isi (.var 1) .str)
      (.cons (.ret (.and (.cons (.isi (.var 0) .str) (.cons (.cmp .eq (.var 0) (.var 1)) .nil)))) .nil)
      .nil) (.cons (.ret (.and (.cons (.isi (.var 0) .int) (.cons (.not (.isi (.var 0) .bool)) (.cons (.cmp .eq (.var 0) (.var 1)) .nil))))) .nil)))))⟩
def d5_law_draw : Fn := ⟨"_law_draw", 3, ["_law_script", "_law_town", "_law_many", "_law_k", "_law_cell", "_law_number"],
    (.cons (.app 1 (.int 0)) (.cons (.asg (.nm 3) (.blt .len (.cons (.var 1) .nil))) (.cons (.asg (.nm 4) (.int 0)) (.cons (.ife (.var 0)
      (.cons (.asg (.nm 4) (.ix (.var 0) (.bin .mod (.var 3) (.blt .len (.cons (.var 0) .nil))))) .nil)
      .nil) (.cons (.asg (.nm 5) (.bin .mod (.bin .add (.var 4) (.bin .mul (.int 104729) (.var 3))) (.int 4294967291))) (.cons (.asg (.nm 5) (.bin .mod (.bin .mul (.bin .mod (.bin .mul (.var 5) (.var 5)) (.int 4294967279)) (.int 48271)) (.int 4294967291))) (.cons (.ret (.bin .mod (.bin .fdiv (.var 5) (.int 64)) (.var 2))) .nil)))))))⟩
def d6_law_pick : Fn := ⟨"_law_pick", 3, ["_law_script", "_law_town", "_law_some"],
    (.cons (.ret (.ix (.var 2) (.call 5 (.cons (.var 0) (.cons (.var 1) (.cons (.blt .len (.cons (.var 2) .nil)) .nil)))))) .nil)⟩
def d7_law_length : Fn := ⟨"_law_length", 2, ["_law_year", "_law_month"],
    (.cons (.ife (.cmp .eq (.var 1) (.int 2))
      (.cons (.ret (.ife (.cmp .eq (.bin .mul (.bin .fdiv (.var 0) (.int 4)) (.int 4)) (.var 0)) (.int 29) (.int 28))) .nil)
      .nil) (.cons (.ret (.ife (.cmp .inn (.var 1) (.tup (.cons (.int 4) (.cons (.int 6) (.cons (.int 9) (.cons (.int 11) .nil)))))) (.int 30) (.int 31))) .nil))⟩
def d8_law_is_date : Fn := ⟨"_law_is_date", 1, ["_law_thing", "_law_one", "_law_year", "_law_month", "_law_number"],
    (.cons (.ife (.or (.cons (.not (.isi (.var 0) .tuple)) (.cons (.cmp .ne (.blt .len (.cons (.var 0) .nil)) (.int 3)) .nil)))
      (.cons (.ret (.bl false)) .nil)
      .nil) (.cons (.for (.nm 1) (.seq (.var 0))
      (.cons (.ife (.or (.cons (.not (.isi (.var 1) .int)) (.cons (.isi (.var 1) .bool) .nil)))
      (.cons (.ret (.bl false)) .nil)
      .nil) .nil)) (.cons (.asg (.tp [2, 3, 4]) (.var 0)) (.cons (.ret (.and (.cons (.chn .le .le (.int 2000) (.var 2) (.int 2099)) (.cons (.chn .le .le (.int 1) (.var 3) (.int 12)) (.cons (.chn .le .le (.int 1) (.var 4) (.call 7 (.cons (.var 2) (.cons (.var 3) .nil)))) .nil))))) .nil))))⟩
def d10_year_length : Fn := ⟨"year_length", 1, ["year"],
    (.cons (.ret (.ife (.call 1 (.cons (.var 0) .nil)) (.int 366) (.int 365))) .nil)⟩
def d11_day_of : Fn := ⟨"day_of", 1, ["date", "years", "ahead_of_year", "ahead_of_month", "year", "month", "day", "at"],
    (.cons (.asg (.tp [4, 5, 6]) (.var 0)) (.cons (.asg (.nm 1) (.bin .sub (.var 4) (.glob "FIRST_YEAR" (.int 2000)))) (.cons (.asg (.nm 2) (.bin .add (.bin .mul (.int 365) (.var 1)) (.bin .fdiv (.bin .add (.var 1) (.int 3)) (.int 4)))) (.cons (.asg (.nm 3) (.blt .sum (.cons (.lc (.call 2 (.cons (.var 4) (.cons (.var 7) .nil))) (.nm 7) (.rng2 (.int 1) (.var 5)) .nil) .nil))) (.cons (.ret (.bin .sub (.bin .add (.bin .add (.var 2) (.var 3)) (.var 6)) (.int 1))) .nil)))))⟩
def d12_date_of : Fn := ⟨"date_of", 1, ["day", "year", "month", "fours", "left"],
    (.cons (.asg (.tp [3, 4]) (.blt .divmod (.cons (.var 0) (.cons (.glob "DAYS_OF_FOUR_YEARS" (.int 1461)) .nil)))) (.cons (.asg (.nm 1) (.bin .add (.glob "FIRST_YEAR" (.int 2000)) (.bin .mul (.int 4) (.var 3)))) (.cons (.whl (.cmp .ge (.var 4) (.call 10 (.cons (.var 1) .nil)))
      (.cons (.aug 4 .sub (.call 10 (.cons (.var 1) .nil))) (.cons (.aug 1 .add (.int 1)) .nil))) (.cons (.asg (.nm 2) (.int 1)) (.cons (.whl (.cmp .ge (.var 4) (.call 2 (.cons (.var 1) (.cons (.var 2) .nil))))
      (.cons (.aug 4 .sub (.call 2 (.cons (.var 1) (.cons (.var 2) .nil)))) (.cons (.aug 2 .add (.int 1)) .nil))) (.cons (.ret (.tup (.cons (.var 1) (.cons (.var 2) (.cons (.bin .add (.var 4) (.int 1)) .nil))))) .nil))))))⟩
def d13_weekday : Fn := ⟨"weekday", 1, ["day"],
    (.cons (.ret (.bin .mod (.bin .add (.var 0) (.glob "FIRST_WEEKDAY" (.int 5))) (.int 7))) .nil)⟩
def d14_law_later : Fn := ⟨"_law_later", 1, ["_law_date_here", "_law_year", "_law_month", "_law_number"],
    (.cons (.asg (.tp [1, 2, 3]) (.var 0)) (.cons (.ife (.cmp .lt (.var 3) (.call 7 (.cons (.var 1) (.cons (.var 2) .nil))))
      (.cons (.ret (.tup (.cons (.var 1) (.cons (.var 2) (.cons (.bin .add (.var 3) (.int 1)) .nil))))) .nil)
      .nil) (.cons (.ife (.cmp .lt (.var 2) (.int 12))
      (.cons (.ret (.tup (.cons (.var 1) (.cons (.bin .add (.var 2) (.int 1)) (.cons (.int 1) .nil))))) .nil)
      .nil) (.cons (.ret (.tup (.cons (.bin .add (.var 1) (.int 1)) (.cons (.int 1) (.cons (.int 1) .nil))))) .nil))))⟩
def d15_law_day : Fn := ⟨"_law_day", 1, ["_law_date_here", "_law_got", "_law_year", "_law_month"],
    (.cons (.asg (.nm 1) (.int 0)) (.cons (.for (.nm 2) (.rng2 (.int 2000) (.ix (.var 0) (.int 0)))
      (.cons (.asg (.nm 1) (.bin .add (.bin .add (.var 1) (.int 337)) (.call 7 (.cons (.var 2) (.cons (.int 2) .nil))))) .nil)) (.cons (.for (.nm 3) (.rng2 (.int 1) (.ix (.var 0) (.int 1)))
      (.cons (.asg (.nm 1) (.bin .add (.var 1) (.call 7 (.cons (.ix (.var 0) (.int 0)) (.cons (.var 3) .nil))))) .nil)) (.cons (.ret (.bin .sub (.bin .add (.var 1) (.ix (.var 0) (.int 2))) (.int 1))) .nil))))⟩
def d16_law_date : Fn := ⟨"_law_date", 2, ["_law_script", "_law_town", "_law_year", "_law_month"],
    (.cons (.asg (.nm 2) (.bin .add (.int 2000) (.call 5 (.cons (.var 0) (.cons (.var 1) (.cons (.int 100) .nil)))))) (.cons (.asg (.nm 3) (.bin .add (.int 1) (.call 5 (.cons (.var 0) (.cons (.var 1) (.cons (.int 12) .nil)))))) (.cons (.ret (.tup (.cons (.var 2) (.cons (.var 3) (.cons (.bin .add (.int 1) (.call 5 (.cons (.var 0) (.cons (.var 1) (.cons (.call 7 (.cons (.var 2) (.cons (.var 3) .nil))) .nil))))) .nil))))) .nil)))⟩
def d18_months_on : Fn := ⟨"months_on", 2, ["date", "many", "later_month", "year", "month", "day", "later_year", "months"],
    (.cons (.asg (.tp [3, 4, 5]) (.var 0)) (.cons (.asg (.tp [6, 7]) (.blt .divmod (.cons (.bin .add (.bin .sub (.bin .add (.bin .mul (.int 12) (.var 3)) (.var 4)) (.int 1)) (.var 1)) (.cons (.int 12) .nil)))) (.cons (.ife (.not (.call 0 (.cons (.var 6) (.cons (.glob "FIRST_YEAR" (.int 2000)) (.cons (.glob "LAST_YEAR" (.int 2099)) .nil)))))
      (.cons (.rse "NoDate" (.cons (.str "so many months on is in none of the years told") .nil)) .nil)
      .nil) (.cons (.asg (.nm 2) (.bin .add (.var 7) (.int 1))) (.cons (.ret (.tup (.cons (.var 6) (.cons (.var 2) (.cons (.blt .min2 (.cons (.var 5) (.cons (.call 2 (.cons (.var 6) (.cons (.var 2) .nil))) .nil))) .nil))))) .nil)))))⟩
def d19_law_told : Fn := ⟨"_law_told", 2, ["_law_date_here", "_law_many", "_law_got"],
    (.cons (.asg (.nm 2) .non) (.cons (.tri (.cons (.asg (.nm 2) (.call 18 (.cons (.var 0) (.cons (.var 1) .nil)))) .nil) "NoDate" ["NoDate"]
      (.cons (.asg (.nm 2) (.str "NoDate")) .nil)) (.cons (.ret (.var 2)) .nil)))⟩
def d20_law_on : Fn := ⟨"_law_on", 2, ["_law_date_here", "_law_many", "_law_k", "_law_year", "_law_month", "_law_number"],
    (.cons (.asg (.tp [3, 4, 5]) (.var 0)) (.cons (.for (.nm 2) (.rng1 (.blt .abs (.cons (.var 1) .nil)))
      (.cons (.asg (.nm 4) (.bin .add (.var 4) (.ife (.cmp .gt (.var 1) (.int 0)) (.int 1) (.neg (.int 1))))) (.cons (.ife (.cmp .eq (.var 4) (.int 13))
      (.cons (.asg (.nm 4) (.int 1)) (.cons (.asg (.nm 3) (.bin .add (.var 3) (.int 1))) .nil))
      .nil) (.cons (.ife (.cmp .eq (.var 4) (.int 0))
      (.cons (.asg (.nm 4) (.int 12)) (.cons (.asg (.nm 3) (.bin .sub (.var 3) (.int 1))) .nil))
      .nil) .nil)))) (.cons (.ife (.or (.cons (.cmp .lt (.var 3) (.int 2000)) (.cons (.cmp .gt (.var 3) (.int 2099)) .nil)))
      (.cons (.ret (.str "NoDate")) .nil)
      .nil) (.cons (.ret (.tup (.cons (.var 3) (.cons (.var 4) (.cons (.blt .min2 (.cons (.var 5) (.cons (.call 7 (.cons (.var 3) (.cons (.var 4) .nil))) .nil))) .nil))))) .nil))))⟩
def d21_law : Fn := ⟨"law", 1, ["_law_script", "_law_town", "_law_k", "_law_date_here", "_law_many", "_law_due"],
    (.cons (.cell 1 .nil) (.cons (.for (.nm 2) (.rng1 (.int 10))
      (.cons (.asg (.nm 3) (.call 16 (.cons (.var 0) (.cons (.var 1) .nil)))) (.cons (.for (.nm 4) (.seq (.lst (.cons (.int 0) (.cons (.int 1) (.cons (.neg (.int 1)) (.cons (.int 12) (.cons (.bin .sub (.call 5 (.cons (.var 0) (.cons (.var 1) (.cons (.int 2600) .nil)))) (.int 1300)) (.cons (.bin .sub (.call 5 (.cons (.var 0) (.cons (.var 1) (.cons (.int 40) .nil)))) (.int 20)) .nil))))))))
      (.cons (.asg (.nm 5) (.call 20 (.cons (.var 3) (.cons (.var 4) .nil)))) (.cons (.ife (.not (.call 4 (.cons (.call 19 (.cons (.var 3) (.cons (.var 4) .nil))) (.cons (.var 5) .nil))))
      (.cons (.ret (.bl false)) .nil)
      .nil) (.cons (.ife (.and (.cons (.cmp .ne (.var 5) (.str "NoDate")) (.cons (.cmp .lt (.ix (.var 3) (.int 2)) (.int 29)) (.cons (.not (.call 4 (.cons (.call 18 (.cons (.var 5) (.cons (.bin .sub (.int 0) (.var 4)) .nil))) (.cons (.var 3) .nil)))) .nil))))
      (.cons (.ret (.bl false)) .nil)
      .nil) .nil)))) .nil))) (.cons (.ret (.bl true)) .nil)))⟩
end Fns

set_option Elab.async false
set_option linter.all false
set_option maxRecDepth 100000
set_option maxHeartbeats 1000000
/-! The evaluator by first order steps: simp looks at no part that is not yet to be run. -/
namespace Ev
open PySem L2 Fns
section
variable {F : Nat → List U → Sto → R U} {sc : List Int} {fu : Nat} {σ : En} {S S1 S2 : Sto}
/-! ### expressions -/
def getV (o : Option (Option U)) (S : Sto) : R U := match o with
  | some (some u) => .ok u S
  | _ => .bad
@[simp] theorem getV_ok (u : U) : getV (some (some u)) S = .ok u S := id rfl
@[simp] theorem ev_var (i : Nat) : ev F sc (.var i) σ S = getV σ[i]? S := by unfold ev getV; rfl
@[simp] theorem ev_int (i : Int) : ev F sc (.int i) σ S = .ok (.d (.int i)) S := id rfl
@[simp] theorem ev_bl (i : Bool) : ev F sc (.bl i) σ S = .ok (.d (.bool i)) S := id rfl
@[simp] theorem ev_non : ev F sc .non σ S = .ok (.d .none) S := id rfl
@[simp] theorem ev_str (i : Str) : ev F sc (.str i) σ S = .ok (.d (.str i)) S := id rfl
@[simp] theorem ev_glob (x : Str) (c : PyData) : ev F sc (.glob x c) σ S = .ok (.d c) S := id rfl
def opd (o : Option PyData) (S : Sto) : R U := (R.of S o).bd fun r S3 => .ok (.d r) S3
@[simp] theorem opd_ok (x : PyData) : opd (some x) S = .ok (.d x) S := id rfl
def opb (o : Option Bool) (S : Sto) : R U := (R.of S o).bd fun r S3 => .ok (.d (.bool r)) S3
@[simp] theorem opb_ok (x : Bool) : opb (some x) S = .ok (.d (.bool x)) S := id rfl
def binC (o : Bop) (p q : Option PyData) (S : Sto) : R U := match p, q with
  | some p, some q => opd (bop o p q) S
  | _, _ => .bad
@[simp] theorem binC_ok (o : Bop) (p q : PyData) : binC o (some p) (some q) S = opd (bop o p q) S := id rfl
def binB (o : Bop) (x : U) (y : R U) : R U := y.bd fun y S2 => binC o (rdN S2 x) (rdN S2 y) S2
@[simp] theorem binB_ok (o : Bop) (x y : U) : binB o x (.ok y S) = binC o (rdN S x) (rdN S y) S := id rfl
def binA (F : Nat → List U → Sto → R U) (sc : List Int) (o : Bop) (b : E) (σ : En) (x : R U) : R U := x.bd fun x S1 => binB o x (ev F sc b σ S1)
@[simp] theorem binA_ok (o : Bop) (b : E) (x : U) : binA F sc o b σ (.ok x S) = binB o x (ev F sc b σ S) := id rfl
@[simp] theorem ev_bin (o : Bop) (a b : E) : ev F sc (.bin o a b) σ S = binA F sc o b σ (ev F sc a σ S) := id rfl
def negA (x : R U) : R U := x.bd fun x S1 => match x with
      | .d (.int i) => .ok (.d (.int (-i))) S1
      | _ => .bad
@[simp] theorem negA_ok (i : Int) : negA (.ok (.d (.int i)) S) = .ok (.d (.int (-i))) S := id rfl
@[simp] theorem ev_neg (a : E) : ev F sc (.neg a) σ S = negA (ev F sc a σ S) := id rfl
def cmpC (o : Cop) (p q : Option PyData) (S : Sto) : R U := match p, q with
  | some p, some q => opb (cop o p q) S
  | _, _ => .bad
@[simp] theorem cmpC_ok (o : Cop) (p q : PyData) : cmpC o (some p) (some q) S = opb (cop o p q) S := id rfl
def cmpB (sc : List Int) (o : Cop) (x : U) (y : R U) : R U := y.bd fun y S2 => cmpC o (rd sc S2 x) (rd sc S2 y) S2
@[simp] theorem cmpB_ok (o : Cop) (x y : U) : cmpB sc o x (.ok y S) = cmpC o (rd sc S x) (rd sc S y) S := id rfl
def cmpA (F : Nat → List U → Sto → R U) (sc : List Int) (o : Cop) (b : E) (σ : En) (x : R U) : R U := x.bd fun x S1 => cmpB sc o x (ev F sc b σ S1)
@[simp] theorem cmpA_ok (o : Cop) (b : E) (x : U) : cmpA F sc o b σ (.ok x S) = cmpB sc o x (ev F sc b σ S) := id rfl
@[simp] theorem ev_cmp (o : Cop) (a b : E) : ev F sc (.cmp o a b) σ S = cmpA F sc o b σ (ev F sc a σ S) := id rfl
def chnD (F : Nat → List U → Sto → R U) (sc : List Int) (o' : Cop) (c : E) (σ : En) (y : U) (r : Option Bool) (S : Sto) : R U := (R.of S r).bd fun r S3 => if r then cmpB sc o' y (ev F sc c σ S3) else .ok (.d (.bool false)) S3
@[simp] theorem chnD_t (o' : Cop) (c : E) (y : U) : chnD F sc o' c σ y (some true) S = cmpB sc o' y (ev F sc c σ S) := id rfl
@[simp] theorem chnD_f (o' : Cop) (c : E) (y : U) : chnD F sc o' c σ y (some false) S = .ok (.d (.bool false)) S := id rfl
def chnC (F : Nat → List U → Sto → R U) (sc : List Int) (o o' : Cop) (c : E) (σ : En) (y : U) (p q : Option PyData) (S : Sto) : R U := match p, q with
  | some p, some q => chnD F sc o' c σ y (cop o p q) S
  | _, _ => .bad
@[simp] theorem chnC_ok (o o' : Cop) (c : E) (y : U) (p q : PyData) : chnC F sc o o' c σ y (some p) (some q) S = chnD F sc o' c σ y (cop o p q) S := id rfl
def chnB (F : Nat → List U → Sto → R U) (sc : List Int) (o o' : Cop) (c : E) (σ : En) (x : U) (y : R U) : R U := y.bd fun y S2 => chnC F sc o o' c σ y (rd sc S2 x) (rd sc S2 y) S2
@[simp] theorem chnB_ok (o o' : Cop) (c : E) (x y : U) : chnB F sc o o' c σ x (.ok y S) = chnC F sc o o' c σ y (rd sc S x) (rd sc S y) S := id rfl
def chnA (F : Nat → List U → Sto → R U) (sc : List Int) (o o' : Cop) (b c : E) (σ : En) (x : R U) : R U := x.bd fun x S1 => chnB F sc o o' c σ x (ev F sc b σ S1)
@[simp] theorem chnA_ok (o o' : Cop) (b c : E) (x : U) : chnA F sc o o' b c σ (.ok x S) = chnB F sc o o' c σ x (ev F sc b σ S) := id rfl
@[simp] theorem ev_chn (o o' : Cop) (a b c : E) : ev F sc (.chn o o' a b c) σ S = chnA F sc o o' b c σ (ev F sc a σ S) := id rfl
def isNA (neg : Bool) (x : R U) : R U := x.bd fun x S1 => match x with
      | .d .none => .ok (.d (.bool !neg)) S1
      | _ => .ok (.d (.bool neg)) S1
@[simp] theorem isNA_none (neg : Bool) : isNA neg (.ok (.d .none) S) = .ok (.d (.bool !neg)) S := id rfl
@[simp] theorem isNA_bool (neg b : Bool) : isNA neg (.ok (.d (.bool b)) S) = .ok (.d (.bool neg)) S := id rfl
@[simp] theorem isNA_int (neg : Bool) (b : Int) : isNA neg (.ok (.d (.int b)) S) = .ok (.d (.bool neg)) S := id rfl
@[simp] theorem isNA_str (neg : Bool) (b : Str) : isNA neg (.ok (.d (.str b)) S) = .ok (.d (.bool neg)) S := id rfl
@[simp] theorem isNA_list (neg : Bool) (b : List PyData) : isNA neg (.ok (.d (.list b)) S) = .ok (.d (.bool neg)) S := id rfl
@[simp] theorem isNA_tuple (neg : Bool) (b : List PyData) : isNA neg (.ok (.d (.tuple b)) S) = .ok (.d (.bool neg)) S := id rfl
@[simp] theorem ev_isN (neg : Bool) (a : E) : ev F sc (.isN neg a) σ S = isNA neg (ev F sc a σ S) := id rfl
/-! truth -/
def tru (sc : List Int) (x : R U) : R Bool := x.bd (truU sc)
def truO (o : Option PyData) (S : Sto) : R Bool := .of S (o.bind truP)
@[simp] theorem tru_ok' (u : U) : tru sc (.ok u S) = truO (rd sc S u) S := id rfl
@[simp] theorem truO_some (d : PyData) : truO (some d) S = .of S (truP d) := id rfl
@[simp] theorem tv_eq (e : E) : tv F sc e σ S = tru sc (ev F sc e σ S) := id rfl
/-! and, or -/
def andB (F : Nat → List U → Sto → R U) (sc : List Int) (as : Es) (σ : En) (u : U) (c : R Bool) : R U := c.bd fun c S2 => if c then evAnd F sc as σ S2 else .ok u S2
@[simp] theorem andB_t (as : Es) (u : U) : andB F sc as σ u (.ok true S) = evAnd F sc as σ S := id rfl
@[simp] theorem andB_f (as : Es) (u : U) : andB F sc as σ u (.ok false S) = .ok u S := id rfl
def andA (F : Nat → List U → Sto → R U) (sc : List Int) (as : Es) (σ : En) (x : R U) : R U := x.bd fun u S1 => andB F sc as σ u (truO (rd sc S1 u) S1)
@[simp] theorem andA_ok (as : Es) (u : U) : andA F sc as σ (.ok u S) = andB F sc as σ u (truO (rd sc S u) S) := id rfl
@[simp] theorem ev_and (as : Es) : ev F sc (.and as) σ S = evAnd F sc as σ S := id rfl
@[simp] theorem evAnd_one (a : E) : evAnd F sc (.cons a .nil) σ S = ev F sc a σ S := id rfl
@[simp] theorem evAnd_cons (a b : E) (as : Es) : evAnd F sc (.cons a (.cons b as)) σ S = andA F sc (.cons b as) σ (ev F sc a σ S) := id rfl
def orB (F : Nat → List U → Sto → R U) (sc : List Int) (as : Es) (σ : En) (u : U) (c : R Bool) : R U := c.bd fun c S2 => if c then .ok u S2 else evOr F sc as σ S2
@[simp] theorem orB_t (as : Es) (u : U) : orB F sc as σ u (.ok true S) = .ok u S := id rfl
@[simp] theorem orB_f (as : Es) (u : U) : orB F sc as σ u (.ok false S) = evOr F sc as σ S := id rfl
def orA (F : Nat → List U → Sto → R U) (sc : List Int) (as : Es) (σ : En) (x : R U) : R U := x.bd fun u S1 => orB F sc as σ u (truO (rd sc S1 u) S1)
@[simp] theorem orA_ok (as : Es) (u : U) : orA F sc as σ (.ok u S) = orB F sc as σ u (truO (rd sc S u) S) := id rfl
@[simp] theorem ev_or (as : Es) : ev F sc (.or as) σ S = evOr F sc as σ S := id rfl
@[simp] theorem evOr_one (a : E) : evOr F sc (.cons a .nil) σ S = ev F sc a σ S := id rfl
@[simp] theorem evOr_cons (a b : E) (as : Es) : evOr F sc (.cons a (.cons b as)) σ S = orA F sc (.cons b as) σ (ev F sc a σ S) := id rfl
def notA (c : R Bool) : R U := c.bd fun c S1 => .ok (.d (.bool !c)) S1
@[simp] theorem notA_ok (c : Bool) : notA (.ok c S) = .ok (.d (.bool !c)) S := id rfl
@[simp] theorem ev_not (a : E) : ev F sc (.not a) σ S = notA (tru sc (ev F sc a σ S)) := id rfl
def ifeA (F : Nat → List U → Sto → R U) (sc : List Int) (a b : E) (σ : En) (c : R Bool) : R U := c.bd fun t S1 => if t then ev F sc a σ S1 else ev F sc b σ S1
@[simp] theorem ifeA_t (a b : E) : ifeA F sc a b σ (.ok true S) = ev F sc a σ S := id rfl
@[simp] theorem ifeA_f (a b : E) : ifeA F sc a b σ (.ok false S) = ev F sc b σ S := id rfl
theorem ifeA_c (a b : E) (c : Bool) : ifeA F sc a b σ (.ok c S) = if c then ev F sc a σ S else ev F sc b σ S := rfl
@[simp] theorem ev_ife (c a b : E) : ev F sc (.ife c a b) σ S = ifeA F sc a b σ (tru sc (ev F sc c σ S)) := id rfl
/-! argument lists -/
def esB (u : U) (us : R (List U)) : R (List U) := us.bd fun us S2 => .ok (u :: us) S2
@[simp] theorem esB_ok (u : U) (us : List U) : esB u (.ok us S) = .ok (u :: us) S := id rfl
def esA (F : Nat → List U → Sto → R U) (sc : List Int) (as : Es) (σ : En) (x : R U) : R (List U) := x.bd fun u S1 => esB u (evs F sc as σ S1)
@[simp] theorem esA_ok (as : Es) (u : U) : esA F sc as σ (.ok u S) = esB u (evs F sc as σ S) := id rfl
@[simp] theorem evs_nil : evs F sc .nil σ S = .ok [] S := id rfl
@[simp] theorem evs_cons (a : E) (as : Es) : evs F sc (.cons a as) σ S = esA F sc as σ (ev F sc a σ S) := id rfl
def asDs : List U → Option (List PyData)
  | [] => some []
  | .d x :: r => (asDs r).map (x :: ·)
  | _ => none
theorem asDs_eq : ∀ us : List U, us.mapM asD = asDs us
  | [] => rfl
  | .d x :: r => by
    rw [List.mapM_cons, asDs_eq r, asDs]
    cases asDs r <;> rfl
  | .c n :: r => by rw [List.mapM_cons]; rfl
  | .s :: r => by rw [List.mapM_cons]; rfl
@[simp] theorem asDs_nil : asDs [] = some [] := id rfl
@[simp] theorem asDs_cons (x : PyData) (r : List U) : asDs (.d x :: r) = (asDs r).map (x :: ·) := id rfl
def szOk (n : Nat) : Bool := decide (n ≤ sizeLine)
theorem szOk_of {n : Nat} (h : n ≤ 1000) : szOk n = true := decide_eq_true (Nat.le_trans h (by decide))
@[simp] theorem szOk_0 : szOk 0 = true := szOk_of (by decide)
@[simp] theorem szOk_1 : szOk 1 = true := szOk_of (by decide)
@[simp] theorem szOk_2 : szOk 2 = true := szOk_of (by decide)
@[simp] theorem szOk_3 : szOk 3 = true := szOk_of (by decide)
@[simp] theorem szOk_4 : szOk 4 = true := szOk_of (by decide)
@[simp] theorem szOk_5 : szOk 5 = true := szOk_of (by decide)
@[simp] theorem szOk_6 : szOk 6 = true := szOk_of (by decide)
@[simp] theorem szOk_7 : szOk 7 = true := szOk_of (by decide)
@[simp] theorem szOk_8 : szOk 8 = true := szOk_of (by decide)
@[simp] theorem szOk_9 : szOk 9 = true := szOk_of (by decide)
@[simp] theorem szOk_10 : szOk 10 = true := szOk_of (by decide)
@[simp] theorem szOk_11 : szOk 11 = true := szOk_of (by decide)
@[simp] theorem szOk_12 : szOk 12 = true := szOk_of (by decide)
def tupB (o : Option (List PyData)) (S : Sto) : R U := match o with
  | some xs => if szOk xs.length then .ok (.d (.tuple xs)) S else .bad
  | none => .bad
@[simp] theorem tupB_ok (xs : List PyData) : tupB (some xs) S = if szOk xs.length then .ok (.d (.tuple xs)) S else .bad := id rfl
def tupA (x : R (List U)) : R U := x.bd fun us S1 => tupB (asDs us) S1
@[simp] theorem tupA_ok (us : List U) : tupA (.ok us S) = tupB (asDs us) S := id rfl
@[simp] theorem ev_tup (as : Es) : ev F sc (.tup as) σ S = tupA (evs F sc as σ S) := by
  show (evs F sc as σ S).bd _ = _
  unfold tupA tupB szOk
  congr 1
  funext us S1
  rw [asDs_eq]
  cases asDs us <;> simp
def lstB (o : Option (List PyData)) (S : Sto) : R U := match o with
  | some xs => if szOk xs.length then .ok (.d (.list xs)) S else .bad
  | none => .bad
@[simp] theorem lstB_ok (xs : List PyData) : lstB (some xs) S = if szOk xs.length then .ok (.d (.list xs)) S else .bad := id rfl
def lstA (x : R (List U)) : R U := x.bd fun us S1 => lstB (asDs us) S1
@[simp] theorem lstA_ok (us : List U) : lstA (.ok us S) = lstB (asDs us) S := id rfl
@[simp] theorem ev_lst (as : Es) : ev F sc (.lst as) σ S = lstA (evs F sc as σ S) := by
  show (evs F sc as σ S).bd _ = _
  unfold lstA lstB szOk
  congr 1
  funext us S1
  rw [asDs_eq]
  cases asDs us <;> simp
def ixC (p q : Option PyData) (S : Sto) : R U := match p, q with
  | some p, some q => opd (ixP p q) S
  | _, _ => .bad
@[simp] theorem ixC_ok (p q : PyData) : ixC (some p) (some q) S = opd (ixP p q) S := id rfl
def ixB (sc : List Int) (x : U) (y : R U) : R U := y.bd fun y S2 => ixC (rd sc S2 x) (rd sc S2 y) S2
@[simp] theorem ixB_ok (x y : U) : ixB sc x (.ok y S) = ixC (rd sc S x) (rd sc S y) S := id rfl
def ixA (F : Nat → List U → Sto → R U) (sc : List Int) (b : E) (σ : En) (x : R U) : R U := x.bd fun x S1 => ixB sc x (ev F sc b σ S1)
@[simp] theorem ixA_ok (b : E) (x : U) : ixA F sc b σ (.ok x S) = ixB sc x (ev F sc b σ S) := id rfl
@[simp] theorem ev_ix (a b : E) : ev F sc (.ix a b) σ S = ixA F sc b σ (ev F sc a σ S) := id rfl
def callA (F : Nat → List U → Sto → R U) (f : Nat) (x : R (List U)) : R U := x.bd fun us S1 => F f us S1
@[simp] theorem callA_ok (f : Nat) (us : List U) : callA F f (.ok us S) = F f us S := id rfl
@[simp] theorem ev_call (f : Nat) (as : Es) : ev F sc (.call f as) σ S = callA F f (evs F sc as σ S) := id rfl
def rdAll (sc : List Int) (S : Sto) : List U → Option (List PyData)
  | [] => some []
  | u :: r => (rd sc S u).bind fun x => (rdAll sc S r).map (x :: ·)
theorem rdAll_eq (S : Sto) : ∀ us : List U, us.mapM (rd sc S) = rdAll sc S us
  | [] => rfl
  | u :: r => by
    rw [List.mapM_cons, rdAll_eq S r, rdAll]
    cases rd sc S u with
    | none => rfl
    | some x => cases rdAll sc S r <;> rfl
@[simp] theorem rdAll_nil : rdAll sc S [] = some [] := id rfl
@[simp] theorem rdAll_cons (u : U) (r : List U) : rdAll sc S (u :: r) = (rd sc S u).bind fun x => (rdAll sc S r).map (x :: ·) := id rfl
def bltB (b : Blt) (o : Option (List PyData)) (S : Sto) : R U := match o with
  | some xs => opd (blt b xs) S
  | none => .bad
@[simp] theorem bltB_ok (b : Blt) (xs : List PyData) : bltB b (some xs) S = opd (blt b xs) S := id rfl
def bltA (sc : List Int) (b : Blt) (x : R (List U)) : R U := x.bd fun us S1 => bltB b (rdAll sc S1 us) S1
@[simp] theorem bltA_ok (b : Blt) (us : List U) : bltA sc b (.ok us S) = bltB b (rdAll sc S us) S := id rfl
@[simp] theorem ev_blt (b : Blt) (as : Es) : ev F sc (.blt b as) σ S = bltA sc b (evs F sc as σ S) := by
  show (evs F sc as σ S).bd _ = _
  unfold bltA
  congr 1
  funext us S1
  rw [rdAll_eq]
  cases rdAll sc S1 us <;> rfl
def isiB (t : Ty) (o : Option PyData) (S : Sto) : R U := match o with
  | some p => opb (isTy t p) S
  | none => .bad
@[simp] theorem isiB_ok (t : Ty) (p : PyData) : isiB t (some p) S = opb (isTy t p) S := id rfl
def isiA (sc : List Int) (t : Ty) (x : R U) : R U := x.bd fun x S1 => isiB t (rd sc S1 x) S1
@[simp] theorem isiA_ok (t : Ty) (x : U) : isiA sc t (.ok x S) = isiB t (rd sc S x) S := id rfl
@[simp] theorem ev_isi (a : E) (t : Ty) : ev F sc (.isi a t) σ S = isiA sc t (ev F sc a σ S) := id rfl
def lcB (x : R (List PyData)) : R U := x.bn fun xs S2 => .ok (.d (.list xs)) S2
@[simp] theorem lcB_ok (xs : List PyData) : lcB (.ok xs S) = .ok (.d (.list xs)) S := id rfl
def lcA (F : Nat → List U → Sto → R U) (sc : List Int) (e : E) (g : G) (ts : Es) (σ : En) (x : R (List PyData × Option Nat)) : R U := x.bd fun its S1 => lcB (lcL (ev F sc e) (evTs F sc ts) g its.2 its.1 (wipeU σ g.slots) its.1 S1 [])
@[simp] theorem lcA_ok (e : E) (g : G) (ts : Es) (xs : List PyData) (ck : Option Nat) : lcA F sc e g ts σ (.ok (xs, ck) S) = lcB (lcL (ev F sc e) (evTs F sc ts) g ck xs (wipeU σ g.slots) xs S []) := id rfl
@[simp] theorem ev_lc (e : E) (g : G) (it : I) (ts : Es) : ev F sc (.lc e g it ts) σ S = lcA F sc e g ts σ (evI F sc it σ S) := id rfl
@[simp] theorem evTs_nil : evTs F sc .nil σ S = .ok true S := id rfl
@[simp] theorem evTs_one (a : E) : evTs F sc (.cons a .nil) σ S = tru sc (ev F sc a σ S) := id rfl
def seqA (sc : List Int) (x : R U) : R (List PyData × Option Nat) := x.bd (itemsOf sc)
@[simp] theorem seqA_ok (u : U) : seqA sc (.ok u S) = itemsOf sc u S := id rfl
@[simp] theorem evI_seq (a : E) : evI F sc (.seq a) σ S = seqA sc (ev F sc a σ S) := id rfl
def rngO (i j : Int) (S : Sto) : R (List PyData × Option Nat) := if small62 i && small62 j then .ok (rngP i (j - i).toNat, none) S else .bad
theorem rngO_ok {i j : Int} (h1 : -1000000000000 ≤ i) (h2 : i ≤ 1000000000000) (h3 : -1000000000000 ≤ j) (h4 : j ≤ 1000000000000) : rngO i j S = .ok (rngP i (j - i).toNat, none) S := by
  unfold rngO small62
  rw [if_pos]
  simp only [Bool.and_eq_true, decide_eq_true_eq]
  omega
def rng1A (x : R U) : R (List PyData × Option Nat) := x.bd fun x S1 => match x with
      | .d (.int j) => if small62 j then .ok (rngP 0 j.toNat, none) S1 else .bad
      | _ => .bad
@[simp] theorem rng1A_ok (j : Int) : rng1A (.ok (.d (.int j)) S) = rngO 0 j S := by
  show (if small62 j then _ else _) = _
  unfold rngO
  have h0 : small62 0 = true := by decide
  rw [h0, Bool.true_and, Int.sub_zero]
@[simp] theorem evI_rng1 (a : E) : evI F sc (.rng1 a) σ S = rng1A (ev F sc a σ S) := id rfl
def rng2B (x : U) (y : R U) : R (List PyData × Option Nat) := y.bd fun y S2 => match x, y with
      | .d (.int i), .d (.int j) => rngO i j S2
      | _, _ => .bad
@[simp] theorem rng2B_ok (i j : Int) : rng2B (.d (.int i)) (.ok (.d (.int j)) S) = rngO i j S := id rfl
def rng2A (F : Nat → List U → Sto → R U) (sc : List Int) (b : E) (σ : En) (x : R U) : R (List PyData × Option Nat) := x.bd fun x S1 => rng2B x (ev F sc b σ S1)
@[simp] theorem rng2A_ok (b : E) (x : U) : rng2A F sc b σ (.ok x S) = rng2B x (ev F sc b σ S) := id rfl
@[simp] theorem evI_rng2 (a b : E) : evI F sc (.rng2 a b) σ S = rng2A F sc b σ (ev F sc a σ S) := id rfl
def zipC (x y : Option (Kd × List PyData)) (S : Sto) : R (List PyData × Option Nat) := match x, y with
      | some (_, xs), some (_, ys) => .ok (zipP xs ys, none) S
      | _, _ => .bad
@[simp] theorem zipC_ok (k1 k2 : Kd) (xs ys : List PyData) : zipC (some (k1, xs)) (some (k2, ys)) S = .ok (zipP xs ys, none) S := id rfl
def zipB (x : U) (y : R U) : R (List PyData × Option Nat) := y.bd fun y S2 => zipC (asSeq x) (asSeq y) S2
@[simp] theorem zipB_ok (x y : U) : zipB x (.ok y S) = zipC (asSeq x) (asSeq y) S := id rfl
def zipA (F : Nat → List U → Sto → R U) (sc : List Int) (b : E) (σ : En) (x : R U) : R (List PyData × Option Nat) := x.bd fun x S1 => zipB x (ev F sc b σ S1)
@[simp] theorem zipA_ok (b : E) (x : U) : zipA F sc b σ (.ok x S) = zipB x (ev F sc b σ S) := id rfl
@[simp] theorem evI_zip (a b : E) : evI F sc (.zip a b) σ S = zipA F sc b σ (ev F sc a σ S) := by
  show (ev F sc a σ S).bd _ = _
  unfold zipA zipB zipC
  rfl
@[simp] theorem asSeq_l (xs : List PyData) : asSeq (.d (.list xs)) = some (.l, xs) := id rfl
@[simp] theorem asSeq_t (xs : List PyData) : asSeq (.d (.tuple xs)) = some (.t, xs) := id rfl
@[simp] theorem zipP_cons (x y : PyData) (xs ys : List PyData) : zipP (x :: xs) (y :: ys) = .tuple [x, y] :: zipP xs ys := id rfl
@[simp] theorem zipP_nil (ys : List PyData) : zipP [] ys = [] := id rfl
/-! a comprehension's turns -/
def lcT2 (te : En → Sto → R U) (tt : En → Sto → R Bool) (g : G) (ck : Option Nat) (all : List PyData) (σ : En) (r acc : List PyData) (u : R U) : R (List PyData) := u.bn fun u S3 => match asD u with
          | none => .bad
          | some y => if acc.length < sizeLine then lcL te tt g ck all σ r S3 (acc ++ [y]) else .bad
@[simp] theorem lcT2_ok (te : En → Sto → R U) (tt : En → Sto → R Bool) (g : G) (ck : Option Nat) (all : List PyData) (σ : En) (r acc : List PyData) (y : PyData) :
    lcT2 te tt g ck all σ r acc (.ok (.d y) S) = if acc.length < sizeLine then lcL te tt g ck all σ r S (acc ++ [y]) else .bad := rfl
def lcT1 (te : En → Sto → R U) (tt : En → Sto → R Bool) (g : G) (ck : Option Nat) (all : List PyData) (σ σ2 : En) (r acc : List PyData) (b : R Bool) : R (List PyData) := b.bn fun b S2 => if b then lcT2 te tt g ck all σ r acc (te σ2 S2) else lcL te tt g ck all σ r S2 acc
@[simp] theorem lcT1_t (te : En → Sto → R U) (tt : En → Sto → R Bool) (g : G) (ck : Option Nat) (all : List PyData) (σ σ2 : En) (r acc : List PyData) : lcT1 te tt g ck all σ σ2 r acc (.ok true S) = lcT2 te tt g ck all σ r acc (te σ2 S) := id rfl
@[simp] theorem lcT1_f (te : En → Sto → R U) (tt : En → Sto → R Bool) (g : G) (ck : Option Nat) (all : List PyData) (σ σ2 : En) (r acc : List PyData) : lcT1 te tt g ck all σ σ2 r acc (.ok false S) = lcL te tt g ck all σ r S acc := id rfl
theorem lcL_nil (te : En → Sto → R U) (tt : En → Sto → R Bool) (g : G) (all : List PyData) (σ : En) (acc : List PyData) : lcL te tt g none all σ [] S acc = .ok acc S := rfl
theorem lcL_cons (te : En → Sto → R U) (tt : En → Sto → R Bool) (g : G) (all : List PyData) (σ : En) (x : PyData) (r acc : List PyData) {σ2 : En} (h : g.put (.d x) σ = some σ2) :
    lcL te tt g none all σ (x :: r) S acc = lcT1 te tt g none all σ σ2 r acc (tt σ2 S) := by
  rw [lcL, if_pos (show ckC S all none = true from rfl), h]
  rfl
/-! ### statements -/
def sq (F : Nat → List U → Sto → R U) (sc : List Int) (fu : Nat) (r : Ts) (x : R Fl) : R Fl := x.bd fun fl S1 => match fl with
      | .nx σ2 => exs F sc fu r σ2 S1
      | .ret u => .ok (.ret u) S1
      | .brk σ2 => .ok (.brk σ2) S1
      | .cnt σ2 => .ok (.cnt σ2) S1
      | .exc c σ2 => .ok (.exc c σ2) S1
@[simp] theorem sq_exc (r : Ts) (c : Str) : sq F sc fu r (.ok (.exc c σ) S) = .ok (.exc c σ) S := id rfl
@[simp] theorem sq_nx (r : Ts) : sq F sc fu r (.ok (.nx σ) S) = exs F sc fu r σ S := id rfl
@[simp] theorem sq_ret (r : Ts) (u : U) : sq F sc fu r (.ok (.ret u) S) = .ok (.ret u) S := id rfl
@[simp] theorem sq_brk (r : Ts) : sq F sc fu r (.ok (.brk σ) S) = .ok (.brk σ) S := id rfl
@[simp] theorem sq_cnt (r : Ts) : sq F sc fu r (.ok (.cnt σ) S) = .ok (.cnt σ) S := id rfl
@[simp] theorem exs_nil : exs F sc fu .nil σ S = .ok (.nx σ) S := id rfl
@[simp] theorem exs_cons (s : T) (r : Ts) : exs F sc fu (.cons s r) σ S = sq F sc fu r (ex F sc fu s σ S) := id rfl
def asgB (o : Option En) (S : Sto) : R Fl := (R.of S o).bd fun σ2 S2 => .ok (.nx σ2) S2
@[simp] theorem asgB_ok : asgB (some σ) S = .ok (.nx σ) S := id rfl
def asgA (g : G) (σ : En) (x : R U) : R Fl := x.sx σ fun u S1 => asgB (g.put u σ) S1
@[simp] theorem asgA_ok (g : G) (u : U) : asgA g σ (.ok u S) = asgB (g.put u σ) S := id rfl
@[simp] theorem ex_asg (g : G) (e : E) : ex F sc fu (.asg g e) σ S = asgA g σ (ev F sc e σ S) := id rfl
def cellB (i : Nat) (σ : En) (o : Option (List PyData)) (S : Sto) : R Fl := match o with
      | some xs => if szOk xs.length then .ok (.nx (σ.set i (some (.c S.length)))) (S ++ [xs]) else .bad
      | none => .bad
@[simp] theorem cellB_ok (i : Nat) (xs : List PyData) : cellB i σ (some xs) S = if szOk xs.length then .ok (.nx (σ.set i (some (.c S.length)))) (S ++ [xs]) else .bad := id rfl
def cellA (i : Nat) (σ : En) (x : R (List U)) : R Fl := x.sx σ fun us S1 => cellB i σ (asDs us) S1
@[simp] theorem cellA_ok (i : Nat) (us : List U) : cellA i σ (.ok us S) = cellB i σ (asDs us) S := id rfl
@[simp] theorem ex_cell (i : Nat) (as : Es) : ex F sc fu (.cell i as) σ S = cellA i σ (evs F sc as σ S) := by
  show (evs F sc as σ S).sx σ _ = _
  unfold cellA cellB szOk
  congr 1
  funext us S1
  rw [asDs_eq]
  cases asDs us <;> simp
def augC (i : Nat) (o : Bop) (σ : En) (x : Int) (u : R U) : R Fl := u.sx σ fun u S1 => match o, u with
        | .add, .d (.int y) => .ok (.nx (σ.set i (some (.d (.int (x + y)))))) S1
        | .sub, .d (.int y) => .ok (.nx (σ.set i (some (.d (.int (x - y)))))) S1
        | _, _ => .bad
@[simp] theorem augC_add (i : Nat) (x y : Int) : augC i .add σ x (.ok (.d (.int y)) S) = .ok (.nx (σ.set i (some (.d (.int (x + y)))))) S := id rfl
@[simp] theorem augC_sub (i : Nat) (x y : Int) : augC i .sub σ x (.ok (.d (.int y)) S) = .ok (.nx (σ.set i (some (.d (.int (x - y)))))) S := id rfl
def augA (F : Nat → List U → Sto → R U) (sc : List Int) (i : Nat) (o : Bop) (e : E) (σ : En) (S : Sto) (w : Option (Option U)) : R Fl := match w with
      | some (some (.d (.int x))) => augC i o σ x (ev F sc e σ S)
      | _ => .bad
@[simp] theorem augA_ok (i : Nat) (o : Bop) (e : E) (x : Int) : augA F sc i o e σ S (some (some (.d (.int x)))) = augC i o σ x (ev F sc e σ S) := id rfl
@[simp] theorem ex_aug (i : Nat) (o : Bop) (e : E) : ex F sc fu (.aug i o e) σ S = augA F sc i o e σ S σ[i]? := by
  show (match σ[i]? with | some (some (.d (.int x))) => _ | _ => _) = _
  unfold augA augC
  rfl
def appD (n : Nat) (σ : En) (y : Option PyData) (xs : Option (List PyData)) (S : Sto) : R Fl := match y, xs with
        | some y, some xs => if xs.length < sizeLine then .ok (.nx σ) (S.set n (xs ++ [y])) else .bad
        | _, _ => .bad
@[simp] theorem appD_ok (n : Nat) (y : PyData) (xs : List PyData) : appD n σ (some y) (some xs) S = if xs.length < sizeLine then .ok (.nx σ) (S.set n (xs ++ [y])) else .bad := id rfl
def appC (n : Nat) (σ : En) (u : R U) : R Fl := u.sx σ fun u S1 => appD n σ (asD u) S1[n]? S1
@[simp] theorem appC_ok (n : Nat) (u : U) : appC n σ (.ok u S) = appD n σ (asD u) S[n]? S := id rfl
def appA (F : Nat → List U → Sto → R U) (sc : List Int) (e : E) (σ : En) (S : Sto) (w : Option (Option U)) : R Fl := match w with
      | some (some (.c n)) => appC n σ (ev F sc e σ S)
      | _ => .bad
@[simp] theorem appA_ok (e : E) (n : Nat) : appA F sc e σ S (some (some (.c n))) = appC n σ (ev F sc e σ S) := id rfl
@[simp] theorem ex_app (i : Nat) (e : E) : ex F sc fu (.app i e) σ S = appA F sc e σ S σ[i]? := by
  show (match σ[i]? with | some (some (.c n)) => _ | _ => _) = _
  unfold appA appC appD
  rfl
def dropA (σ : En) (x : R U) : R Fl := x.sx σ fun _ S1 => .ok (.nx σ) S1
@[simp] theorem dropA_ok (u : U) : dropA σ (.ok u S) = .ok (.nx σ) S := id rfl
@[simp] theorem ex_drop (e : E) : ex F sc fu (.drop e) σ S = dropA σ (ev F sc e σ S) := id rfl
def retA (σ : En) (x : R U) : R Fl := x.sx σ fun u S1 => .ok (.ret u) S1
@[simp] theorem retA_ok (u : U) : retA σ (.ok u S) = .ok (.ret u) S := id rfl
@[simp] theorem ex_ret (e : E) : ex F sc fu (.ret e) σ S = retA σ (ev F sc e σ S) := id rfl
@[simp] theorem ex_retN : ex F sc fu .retN σ S = .ok (.ret (.d .none)) S := id rfl
def ifA (F : Nat → List U → Sto → R U) (sc : List Int) (fu : Nat) (a b : Ts) (σ : En) (c : R Bool) : R Fl := c.sx σ fun t S1 => if t then exs F sc fu a σ S1 else exs F sc fu b σ S1
@[simp] theorem ifA_t (a b : Ts) : ifA F sc fu a b σ (.ok true S) = exs F sc fu a σ S := id rfl
@[simp] theorem ifA_f (a b : Ts) : ifA F sc fu a b σ (.ok false S) = exs F sc fu b σ S := id rfl
theorem ifA_c (a b : Ts) (c : Bool) : ifA F sc fu a b σ (.ok c S) = if c then exs F sc fu a σ S else exs F sc fu b σ S := rfl
@[simp] theorem ex_ife (c : E) (a b : Ts) : ex F sc fu (.ife c a b) σ S = ifA F sc fu a b σ (tru sc (ev F sc c σ S)) := id rfl
@[simp] theorem ex_whl (c : E) (b : Ts) : ex F sc fu (.whl c b) σ S = whlL (tv F sc c) (exs F sc fu b) fu σ S := id rfl
def forA (F : Nat → List U → Sto → R U) (sc : List Int) (fu : Nat) (g : G) (b : Ts) (σ : En) (x : R (List PyData × Option Nat)) : R Fl := x.sx σ fun its S1 => forL (exs F sc fu b) g its.2 its.1 its.1 σ S1
@[simp] theorem forA_ok (g : G) (b : Ts) (xs : List PyData) (ck : Option Nat) : forA F sc fu g b σ (.ok (xs, ck) S) = forL (exs F sc fu b) g ck xs xs σ S := id rfl
@[simp] theorem ex_for (g : G) (it : I) (b : Ts) : ex F sc fu (.for g it b) σ S = forA F sc fu g b σ (evI F sc it σ S) := id rfl
@[simp] theorem asgA_exc (g : G) (c : Str) : asgA g σ (.exc c S) = .ok (.exc c σ) S := id rfl
@[simp] theorem dropA_exc (c : Str) : dropA σ (.exc c S) = .ok (.exc c σ) S := id rfl
@[simp] theorem retA_exc (c : Str) : retA σ (.exc c S) = .ok (.exc c σ) S := id rfl
@[simp] theorem ifA_exc (a b : Ts) (c : Str) : ifA F sc fu a b σ (.exc c S) = .ok (.exc c σ) S := id rfl
@[simp] theorem tru_exc (c : Str) : tru sc (.exc c S) = .exc c S := id rfl
@[simp] theorem notA_exc (c : Str) : notA (.exc c S) = .exc c S := id rfl
def rseA (c : Str) (σ : En) (x : R (List U)) : R Fl := x.sx σ fun us S1 => if szOk us.length then .ok (.exc c σ) S1 else .bad
@[simp] theorem rseA_ok (c : Str) (us : List U) : rseA c σ (.ok us S) = if szOk us.length then .ok (.exc c σ) S else .bad := id rfl
@[simp] theorem ex_rse (c : Str) (as : Es) : ex F sc fu (.rse c as) σ S = rseA c σ (evs F sc as σ S) := by
  show (evs F sc as σ S).sx σ _ = _
  unfold rseA szOk
  congr 1
  funext us S1
  simp
def triA (F : Nat → List U → Sto → R U) (sc : List Int) (fu : Nat) (cs : List Str) (h : Ts) (x : R Fl) : R Fl := x.bd fun fl S1 => match fl with
      | .exc d σ2 => if cs.any fun y => decide (y = d) then noEx (exs F sc fu h σ2 S1) else .bad
      | fl => .ok fl S1
@[simp] theorem triA_nx (cs : List Str) (h : Ts) : triA F sc fu cs h (.ok (.nx σ) S) = .ok (.nx σ) S := id rfl
@[simp] theorem triA_ret (cs : List Str) (h : Ts) (u : U) : triA F sc fu cs h (.ok (.ret u) S) = .ok (.ret u) S := id rfl
@[simp] theorem triA_exc (cs : List Str) (h : Ts) (d : Str) : triA F sc fu cs h (.ok (.exc d σ) S) = if cs.any fun y => decide (y = d) then noEx (exs F sc fu h σ S) else .bad := id rfl
@[simp] theorem ex_tri (b : Ts) (c : Str) (cs : List Str) (h : Ts) : ex F sc fu (.tri b c cs h) σ S = triA F sc fu cs h (exs F sc fu b σ S) := by
  show (exs F sc fu b σ S).bd _ = _
  unfold triA
  rfl
@[simp] theorem ex_brk : ex F sc fu .brk σ S = .ok (.brk σ) S := id rfl
@[simp] theorem ex_cnt : ex F sc fu .cnt σ S = .ok (.cnt σ) S := id rfl
@[simp] theorem ex_pas : ex F sc fu .pas σ S = .ok (.nx σ) S := id rfl
def forT (body : En → Sto → R Fl) (g : G) (ck : Option Nat) (all r : List PyData) (x : R Fl) : R Fl := x.bd fun fl S2 => match fl with
        | .nx σ3 => forL body g ck all r σ3 S2
        | .cnt σ3 => forL body g ck all r σ3 S2
        | .brk σ3 => .ok (.nx σ3) S2
        | .ret u => .ok (.ret u) S2
        | .exc c σ3 => .ok (.exc c σ3) S2
@[simp] theorem forT_exc (body : En → Sto → R Fl) (g : G) (ck : Option Nat) (all r : List PyData) (c : Str) : forT body g ck all r (.ok (.exc c σ) S) = .ok (.exc c σ) S := id rfl
@[simp] theorem forT_nx (body : En → Sto → R Fl) (g : G) (ck : Option Nat) (all r : List PyData) : forT body g ck all r (.ok (.nx σ) S) = forL body g ck all r σ S := id rfl
@[simp] theorem forT_cnt (body : En → Sto → R Fl) (g : G) (ck : Option Nat) (all r : List PyData) : forT body g ck all r (.ok (.cnt σ) S) = forL body g ck all r σ S := id rfl
@[simp] theorem forT_brk (body : En → Sto → R Fl) (g : G) (ck : Option Nat) (all r : List PyData) : forT body g ck all r (.ok (.brk σ) S) = .ok (.nx σ) S := id rfl
@[simp] theorem forT_ret (body : En → Sto → R Fl) (g : G) (ck : Option Nat) (all r : List PyData) (u : U) : forT body g ck all r (.ok (.ret u) S) = .ok (.ret u) S := id rfl
theorem forL_nil (body : En → Sto → R Fl) (g : G) (all : List PyData) : forL body g none all [] σ S = .ok (.nx σ) S := rfl
theorem forL_cons (body : En → Sto → R Fl) (g : G) (all : List PyData) (x : PyData) (r : List PyData) {σ2 : En} (h : g.put (.d x) σ = some σ2) : forL body g none all (x :: r) σ S = forT body g none all r (body σ2 S) := by
  rw [forL, if_pos (show ckC S all none = true from rfl), h]
  rfl
/-- the loop over data by what holds -/
theorem forL_inv {body : En → Sto → R Fl} {g : G} {all : List PyData} (P : List PyData → En → Sto → Prop) (Q : R Fl → Prop)
    (hd : ∀ σ S, P [] σ S → Q (.ok (.nx σ) S))
    (hs : ∀ x r σ S, P (x :: r) σ S → ∃ σ2, g.put (.d x) σ = some σ2 ∧ ((∃ σ3 S3, body σ2 S = .ok (.nx σ3) S3 ∧ P r σ3 S3) ∨ (∃ σ3 S3, body σ2 S = .ok (.cnt σ3) S3 ∧ P r σ3 S3) ∨ (∃ σ3 S3, body σ2 S = .ok (.brk σ3) S3 ∧ Q (.ok (.nx σ3) S3)) ∨ (∃ u S3, body σ2 S = .ok (.ret u) S3 ∧ Q (.ok (.ret u) S3)))) :
    ∀ items σ S, P items σ S → Q (forL body g none all items σ S)
  | [], σ, S, h => hd σ S h
  | x :: r, σ, S, h => by
    obtain ⟨σ2, e, q⟩ := hs x r σ S h
    rw [forL_cons body g all x r e]
    rcases q with ⟨σ3, S3, e2, p⟩ | ⟨σ3, S3, e2, p⟩ | ⟨σ3, S3, e2, p⟩ | ⟨u, S3, e2, p⟩
    · rw [e2, forT_nx]; exact forL_inv P Q hd hs r σ3 S3 p
    · rw [e2, forT_cnt]; exact forL_inv P Q hd hs r σ3 S3 p
    · rw [e2, forT_brk]; exact p
    · rw [e2, forT_ret]; exact p
/-! ### a def -/
def fin (k : Nat) (r : R Fl) : R U := r.bn fun fl S1 => match fl with
        | .ret u => (R.of S1 (frz k S1 u)).bd fun v S2 => .ok v (S2.take k)
        | .nx _ => .ok (.d .none) (S1.take k)
        | .exc c _ => .exc c (S1.take k)
        | _ => .bad
@[simp] theorem fin_exc {k : Nat} {c : Str} : fin k (.ok (.exc c σ) S) = .exc c (S.take k) := id rfl
/-- a def of the table, up to its names -/
def Has (tab : Nat → Option Fn) (f : Nat) (d : Fn) : Prop := ∃ fn, tab f = some fn ∧ fn.body = d.body ∧ fn.ps = d.ps ∧ fn.N.length = d.N.length
theorem run_eq {tab : Nat → Option Fn} {n f : Nat} {d : Fn} {us : List U} (h : Has tab f d) (hl : us.length = d.ps) : run sc fu tab (n + 1) f us S = fin S.length (exs (run sc fu tab n) sc fu d.body (entry d.N.length us) S) := by
  obtain ⟨fn, h, h1, h2, h3⟩ := h
  rw [run]
  simp only [h]
  rw [if_pos (by rw [h2]; exact hl), h1, h3]
  rfl
@[simp] theorem fin_ret {k : Nat} {x : PyData} : fin k (.ok (.ret (.d x)) S) = .ok (.d x) (S.take k) := id rfl
@[simp] theorem fin_nx {k : Nat} : fin k (.ok (.nx σ) S) = .ok (.d .none) (S.take k) := id rfl
theorem fin_ite {k : Nat} {c : Prop} [Decidable c] {a b : R Fl} : fin k (if c then a else b) = if c then fin k a else fin k b := by split <;> rfl
@[simp] theorem shaped_int (i : Int) : SeqAt.shaped (.int i) = true := by simp [SeqAt.shaped, PyData.canLay0, PyData.depth]
@[simp] theorem shaped_bool (i : Bool) : SeqAt.shaped (.bool i) = true := by simp [SeqAt.shaped, PyData.canLay0, PyData.depth]
@[simp] theorem shaped_none : SeqAt.shaped .none = true := by simp [SeqAt.shaped, PyData.canLay0, PyData.depth]
@[simp] theorem eqv_int (i j : Int) : PyData.eqv (.int i) (.int j) = decide (i = j) := by simp [PyData.eqv, Bool.beq_eq_decide_eq]
@[simp] theorem eqv_bool (i j : Bool) : PyData.eqv (.bool i) (.bool j) = (i == j) := by simp [PyData.eqv]
@[simp] theorem take_set (c : Nat) (v : List PyData) : (S.set c v).take S.length = S.set c v := List.take_of_length_le (by rw [List.length_set]; exact Nat.le_refl _)
theorem mulOk_l {i j : Int} (h1 : -1000000000000000 ≤ i) (h2 : i ≤ 1000000000000000) : mulOk i j = true := by
  unfold mulOk
  simp only [Bool.or_eq_true, Bool.and_eq_true, decide_eq_true_eq]
  left
  omega
theorem mulOk_r {i j : Int} (h1 : -1000000000000000 ≤ j) (h2 : j ≤ 1000000000000000) : mulOk i j = true := by
  unfold mulOk
  simp only [Bool.or_eq_true, Bool.and_eq_true, decide_eq_true_eq]
  right
  omega
theorem divOk_of {j : Int} (h1 : 0 < j) (h2 : j < 1000000000) : divOk j = true := by
  unfold divOk
  simp only [Bool.and_eq_true, decide_eq_true_eq]
  omega
@[simp] theorem atI_0 {α : Type} (x0 : α) (r : List α) : atI (x0 :: r) 0 = some x0 := atI_nat (j := 0) rfl
@[simp] theorem atI_1 {α : Type} (x0 x1 : α) (r : List α) : atI (x0 :: x1 :: r) 1 = some x1 := atI_nat (j := 1) rfl
@[simp] theorem atI_2 {α : Type} (x0 x1 x2 : α) (r : List α) : atI (x0 :: x1 :: x2 :: r) 2 = some x2 := atI_nat (j := 2) rfl
@[simp] theorem atI_3 {α : Type} (x0 x1 x2 x3 : α) (r : List α) : atI (x0 :: x1 :: x2 :: x3 :: r) 3 = some x3 := atI_nat (j := 3) rfl
@[simp] theorem atI_4 {α : Type} (x0 x1 x2 x3 x4 : α) (r : List α) : atI (x0 :: x1 :: x2 :: x3 :: x4 :: r) 4 = some x4 := atI_nat (j := 4) rfl
@[simp] theorem atI_5 {α : Type} (x0 x1 x2 x3 x4 x5 : α) (r : List α) : atI (x0 :: x1 :: x2 :: x3 :: x4 :: x5 :: r) 5 = some x5 := atI_nat (j := 5) rfl
@[simp] theorem atI_6 {α : Type} (x0 x1 x2 x3 x4 x5 x6 : α) (r : List α) : atI (x0 :: x1 :: x2 :: x3 :: x4 :: x5 :: x6 :: r) 6 = some x6 := atI_nat (j := 6) rfl
@[simp] theorem atI_7 {α : Type} (x0 x1 x2 x3 x4 x5 x6 x7 : α) (r : List α) : atI (x0 :: x1 :: x2 :: x3 :: x4 :: x5 :: x6 :: x7 :: r) 7 = some x7 := atI_nat (j := 7) rfl
@[simp] theorem atI_8 {α : Type} (x0 x1 x2 x3 x4 x5 x6 x7 x8 : α) (r : List α) : atI (x0 :: x1 :: x2 :: x3 :: x4 :: x5 :: x6 :: x7 :: x8 :: r) 8 = some x8 := atI_nat (j := 8) rfl
@[simp] theorem atI_9 {α : Type} (x0 x1 x2 x3 x4 x5 x6 x7 x8 x9 : α) (r : List α) : atI (x0 :: x1 :: x2 :: x3 :: x4 :: x5 :: x6 :: x7 :: x8 :: x9 :: r) 9 = some x9 := atI_nat (j := 9) rfl
@[simp] theorem divOk_4 : divOk 4 = true := divOk_of (by decide) (by decide)
@[simp] theorem divOk_7 : divOk 7 = true := divOk_of (by decide) (by decide)
@[simp] theorem divOk_64 : divOk 64 = true := divOk_of (by decide) (by decide)
@[simp] theorem divOk_1461 : divOk 1461 = true := divOk_of (by decide) (by decide)
@[simp] theorem divOk_100 : divOk 100 = true := divOk_of (by decide) (by decide)
@[simp] theorem divOk_12 : divOk 12 = true := divOk_of (by decide) (by decide)
@[simp] theorem divOk_10 : divOk 10 = true := divOk_of (by decide) (by decide)
end
end Ev

set_option Elab.async false
set_option linter.all false
set_option maxRecDepth 100000
set_option maxHeartbeats 1000000
namespace Ev
open PySem L2 Fns
/-- a whole number within bounds -/
def wholeP (x : PyData) (lo hi : Int) : Bool := match x with
  | .int i => decide (lo ≤ i) && decide (i ≤ hi)
  | _ => false
def isDict : PyData → Bool
  | .dict _ => true
  | _ => false
@[simp] theorem isDict_int (i : Int) : isDict (.int i) = false := id rfl
@[simp] theorem isDict_bool (i : Bool) : isDict (.bool i) = false := id rfl
@[simp] theorem isDict_none : isDict .none = false := id rfl
@[simp] theorem isDict_str (i : Str) : isDict (.str i) = false := id rfl
def mlen (y m : Int) : Int := if m = 2 then (if y % 4 = 0 then 29 else 28) else if m = 4 ∨ m = 6 ∨ m = 9 ∨ m = 11 then 30 else 31
section
variable {sc : List Int} {fu : Nat} {tab : Nat → Option Fn} {n : Nat} {S : Sto}
theorem is_whole_ok (h : Has tab 0 d0_is_whole) (x : PyData) (lo hi : Int) (hx : isDict x = false) :
    run sc fu tab (n + 1) 0 [.d x, .d (.int lo), .d (.int hi)] S = .ok (.d (.bool (wholeP x lo hi))) S := by
  rw [run_eq h rfl]
  cases x with
  | int i => by_cases h1 : lo ≤ i <;> simp [d0_is_whole, entry, wholeP, h1]
  | dict _ => cases hx
  | _ => simp [d0_is_whole, entry, wholeP]
theorem is_long_ok (h : Has tab 1 d1_is_long) (y : Int) : run sc fu tab (n + 1) 1 [.d (.int y)] S = .ok (.d (.bool (decide (y % 4 = 0)))) S := by
  rw [run_eq h rfl]
  simp [d1_is_long, entry]
theorem or_b {m : Int} : (4 == m || (6 == m || (9 == m || 11 == m))) = decide (m = 4 ∨ m = 6 ∨ m = 9 ∨ m = 11) := by
  rw [Bool.eq_iff_iff]
  simp only [Bool.or_eq_true, beq_iff_eq, decide_eq_true_eq]
  omega
theorem month_length_ok (h1 : Has tab 1 d1_is_long) (h : Has tab 2 d2_month_length) (y m : Int) : run sc fu tab (n + 2) 2 [.d (.int y), .d (.int m)] S = .ok (.d (.int (mlen y m))) S := by
  rw [run_eq h rfl]
  by_cases hm : m = 2
  · subst hm
    by_cases hy : y % 4 = 0 <;> simp [d2_month_length, entry, is_long_ok h1, mlen, hy]
  · by_cases h4 : m = 4 ∨ m = 6 ∨ m = 9 ∨ m = 11 <;> simp [d2_month_length, entry, mlen, hm, or_b, h4]
def toI : PyData → Int
  | .int i => i
  | _ => 0
/-- a date, by hand -/
def isDateP (x : PyData) : Bool := match x with
  | .tuple [y, m, d] => wholeP y 2000 2099 && wholeP m 1 12 && wholeP d 1 (mlen (toI y) (toI m))
  | _ => false
def noDict : PyData → Bool
  | .dict _ => false
  | .tuple xs => xs.all fun y => !isDict y
  | _ => true
theorem len3 {xs : List PyData} (h : xs.length = 3) : ∃ a b c, xs = [a, b, c] := by
  match xs, h with
  | [a, b, c], _ => exact ⟨a, b, c, rfl⟩
theorem wholeP_inv {x : PyData} {lo hi : Int} (h : wholeP x lo hi = true) : ∃ i, x = .int i ∧ lo ≤ i ∧ i ≤ hi := by
  unfold wholeP at h
  split at h
  · rw [Bool.and_eq_true] at h
    exact ⟨_, rfl, of_decide_eq_true h.1, of_decide_eq_true h.2⟩
  · cases h
theorem isDateP_no {xs : List PyData} (hl : ¬ xs.length = 3) : isDateP (.tuple xs) = false := by
  unfold isDateP
  split
  · rename_i e
    cases e
    exact absurd rfl hl
  · rfl
theorem is_date_ok (h0 : Has tab 0 d0_is_whole) (h1 : Has tab 1 d1_is_long) (h2 : Has tab 2 d2_month_length) (h : Has tab 3 d3_is_date) (x : PyData) (hx : noDict x = true) :
    run sc fu tab (n + 3) 3 [.d x] S = .ok (.d (.bool (isDateP x))) S := by
  rw [run_eq h rfl]
  cases x with
  | tuple xs =>
    by_cases hl : xs.length = 3
    · obtain ⟨a, b, c, rfl⟩ := len3 hl
      simp [noDict] at hx
      obtain ⟨ha, hb, hc⟩ := hx
      cases wa : wholeP a 2000 2099 with
      | false => simp [d3_is_date, entry, is_whole_ok h0, ha, isDateP, wa]
      | true =>
        obtain ⟨y, rfl, _⟩ := wholeP_inv wa
        cases wb : wholeP b 1 12 with
        | false => simp [d3_is_date, entry, is_whole_ok h0, ha, hb, isDateP, wa, wb]
        | true =>
          obtain ⟨m, rfl, _⟩ := wholeP_inv wb
          simp [d3_is_date, entry, month_length_ok h1 h2, is_whole_ok h0, ha, hb, hc, isDateP, wa, wb, toI]
    · have hl' : ¬ (xs.length : Int) = 3 := by omega
      simp [d3_is_date, entry, hl', isDateP_no hl]
  | dict _ => cases hx
  | _ => simp [d3_is_date, entry, isDateP]
/-! ### the law's own -/
theorem law_length_ok (h : Has tab 7 d7_law_length) (y m : Int) : run sc fu tab (n + 1) 7 [.d (.int y), .d (.int m)] S = .ok (.d (.int (mlen y m))) S := by
  rw [run_eq h rfl]
  have e4 : (y / 4 * 4 = y) ↔ (y % 4 = 0) := by omega
  have m4 : mulOk (y / 4) 4 = true := mulOk_r (by decide) (by decide)
  by_cases hm : m = 2
  · subst hm
    by_cases hy : y % 4 = 0 <;> simp [d7_law_length, entry, mlen, m4, e4, hy]
  · by_cases h4 : m = 4 ∨ m = 6 ∨ m = 9 ∨ m = 11 <;> simp [d7_law_length, entry, mlen, hm, or_b, h4]
theorem law_is_date_ok (h7 : Has tab 7 d7_law_length) (h : Has tab 8 d8_law_is_date) (x : PyData) (hx : noDict x = true) :
    run sc fu tab (n + 2) 8 [.d x] S = .ok (.d (.bool (isDateP x))) S := by
  rw [run_eq h rfl]
  cases x with
  | tuple xs =>
    by_cases hl : xs.length = 3
    · obtain ⟨a, b, c, rfl⟩ := len3 hl
      simp [noDict] at hx
      obtain ⟨ha, hb, hc⟩ := hx
      cases a with
      | int y =>
        cases b with
        | int m =>
          cases c with
          | int d =>
            by_cases h1 : 2000 ≤ y <;> by_cases h2 : y ≤ 2099 <;> by_cases h3 : 1 ≤ m <;> by_cases h4 : m ≤ 12 <;> by_cases h5 : 1 ≤ d <;>
              simp [d8_law_is_date, entry, law_length_ok h7, isDateP, wholeP, toI, h1, h2, h3, h4, h5, forL_cons, forL_nil]
            exact decide_eq_decide.mpr Iff.rfl
          | dict _ => cases hc
          | _ => simp [d8_law_is_date, entry, isDateP, wholeP, forL_cons, forL_nil]
        | dict _ => cases hb
        | _ => simp [d8_law_is_date, entry, isDateP, wholeP, forL_cons, forL_nil]
      | dict _ => cases ha
      | _ => simp [d8_law_is_date, entry, isDateP, wholeP, forL_cons, forL_nil]
    · have hl' : ¬ (xs.length : Int) = 3 := by omega
      simp [d8_law_is_date, entry, hl', isDateP_no hl]
  | dict _ => cases hx
  | _ => simp [d8_law_is_date, entry, isDateP]
theorem law_same_bool (h : Has tab 4 d4_law_same) (a b : Bool) : run sc fu tab (n + 1) 4 [.d (.bool a), .d (.bool b)] S = .ok (.d (.bool (a == b))) S := by
  rw [run_eq h rfl]
  simp [d4_law_same, entry]
end
end Ev

set_option Elab.async false
set_option linter.all false
set_option maxRecDepth 100000
set_option maxHeartbeats 1000000
namespace Ev
open PySem L2 Fns
section
variable {sc : List Int} {fu : Nat} {tab : Nat → Option Fn} {n : Nat} {S : Sto}
/-! ### draws -/
/-- what a draw is -/
def cellAt (sc : List Int) (k : Nat) : Int := if sc.isEmpty then 0 else sc.getD (k % sc.length) 0
def drawX (sc : List Int) (k : Nat) : Int := (cellAt sc k + 104729 * (k : Int)) % 4294967291
def drawY (x : Int) : Int := x * x % 4294967279 * 48271 % 4294967291
def drawV (sc : List Int) (k : Nat) (many : Int) : Int := drawY (drawX sc k) / 64 % many
theorem drawV_lt (sc : List Int) (k : Nat) {many : Int} (h : 0 < many) : 0 ≤ drawV sc k many ∧ drawV sc k many < many := ⟨Int.emod_nonneg _ (by omega), Int.emod_lt_of_pos _ h⟩
theorem drawX_lt (sc : List Int) (k : Nat) : 0 ≤ drawX sc k ∧ drawX sc k < 4294967291 := ⟨Int.emod_nonneg _ (by decide), Int.emod_lt_of_pos _ (by decide)⟩
theorem atI_in {α : Type} {xs : List α} {i : Int} (h0 : 0 ≤ i) (h1 : i < xs.length) (d : α) : atI xs i = some (xs.getD i.toNat d) := by
  have hn : i.toNat < xs.length := by omega
  have e : xs[i.toNat]? = some (xs.getD i.toNat d) := by rw [List.getD_eq_getElem?_getD, List.getElem?_eq_getElem hn]; rfl
  have := atI_nat e
  rw [Int.toNat_of_nonneg h0] at this
  exact this
theorem law_draw_ok (h : Has tab 5 d5_law_draw) {c : Nat} {zs : List PyData} (hc : S[c]? = some zs) (hz : zs.length < sizeLine) {many : Int} (hm : 0 < many) :
    run sc fu tab (n + 1) 5 [.s, .c c, .d (.int many)] S = .ok (.d (.int (drawV sc (zs.length + 1) many))) (S.set c (zs ++ [.int 0])) := by
  rw [run_eq h rfl]
  have hS : (S.set c (zs ++ [.int 0]))[c]? = some (zs ++ [.int 0]) := List.getElem?_set_self (List.getElem?_eq_some_iff.mp hc).1
  have hx := drawX_lt sc (zs.length + 1)
  have c1 : ((zs.length + 1 : Nat) : Int) = (zs.length : Int) + 1 := rfl
  have ex : ∀ z : Int, z = cellAt sc (zs.length + 1) → (z + 104729 * ((zs.length + 1 : Nat) : Int)) % 4294967291 = drawX sc (zs.length + 1) := fun z e => by rw [e, drawX]
  have m1 : mulOk 104729 ((zs.length + 1 : Nat) : Int) = true := mulOk_l (by decide) (by decide)
  have m2 : mulOk (drawX sc (zs.length + 1)) (drawX sc (zs.length + 1)) = true := mulOk_l (by omega) (by omega)
  have m3 : mulOk (drawX sc (zs.length + 1) * drawX sc (zs.length + 1) % 4294967279) 48271 = true := mulOk_r (by decide) (by decide)
  have d64 : divOk 64 = true := divOk_of (by decide) (by decide)
  have dv : drawX sc (zs.length + 1) * drawX sc (zs.length + 1) % 4294967279 * 48271 % 4294967291 / 64 % many = drawV sc (zs.length + 1) many := by rw [drawV, drawY]
  cases sc with
  | nil =>
    have e0 := ex 0 rfl
    rw [c1, Int.zero_add] at e0
    rw [c1] at m1
    simp only [d5_law_draw, entry]
    simp [hc, hS, hz, m1, e0, m2, m3, d64, hm, dv]
  | cons z r =>
    generalize hsc : z :: r = scr at *
    have hne : scr.isEmpty = false := by rw [← hsc]; rfl
    have hpos : (0 : Int) < (scr.length : Int) := by rw [← hsc]; simp
    have bm : bop .mod (.int ((zs.length : Int) + 1)) (.int (scr.length : Int)) = some (.int (((zs.length : Int) + 1) % (scr.length : Int))) := bop_mod hpos
    have hat : atI (scr.map PyData.int) (((zs.length + 1 : Nat) : Int) % (scr.length : Int)) = some (.int (cellAt scr (zs.length + 1))) := by
      have hb := Int.emod_lt_of_pos ((zs.length + 1 : Nat) : Int) hpos
      have ha := Int.emod_nonneg ((zs.length + 1 : Nat) : Int) (Int.ne_of_gt hpos)
      rw [atI_in ha (by rw [List.length_map]; exact hb) (.int 0)]
      have : (((zs.length + 1 : Nat) : Int) % (scr.length : Int)).toNat = (zs.length + 1) % scr.length := by rw [← Int.natCast_emod]; exact Int.toNat_natCast _
      rw [this]
      unfold cellAt
      rw [hne, if_neg Bool.false_ne_true]
      rw [List.getD_eq_getElem?_getD, List.getD_eq_getElem?_getD, List.getElem?_map]
      cases scr[(zs.length + 1) % scr.length]? <;> rfl
    have e0 := ex _ rfl
    rw [c1] at e0 m1 hat
    simp only [d5_law_draw, entry]
    simp [hc, hS, hz, hne, hat, bm, m1, e0, m2, m3, d64, hm, dv]
theorem law_pick_ok (h5 : Has tab 5 d5_law_draw) (h : Has tab 6 d6_law_pick) {c : Nat} {zs : List PyData} (hc : S[c]? = some zs) (hz : zs.length < sizeLine) {xs : List PyData} (hx : xs ≠ []) :
    ∃ x, x ∈ xs ∧ run sc fu tab (n + 2) 6 [.s, .c c, .d (.list xs)] S = .ok (.d x) (S.set c (zs ++ [.int 0])) := by
  have hp : (0 : Int) < (xs.length : Int) := by
    have := List.length_pos_iff.mpr hx
    omega
  obtain ⟨h0, h1⟩ := drawV_lt sc (zs.length + 1) hp
  have e := atI_in h0 h1 .none
  refine ⟨xs.getD (drawV sc (zs.length + 1) xs.length).toNat .none, ?_, ?_⟩
  · have hn : (drawV sc (zs.length + 1) xs.length).toNat < xs.length := by omega
    rw [List.getD_eq_getElem?_getD, List.getElem?_eq_getElem hn]
    exact List.getElem_mem hn
  · rw [run_eq h rfl]
    simp only [d6_law_pick, entry]
    simp [law_draw_ok h5 hc hz hp, e]
/-- with the town alone in the store -/
theorem pick1 (h5 : Has tab 5 d5_law_draw) (h : Has tab 6 d6_law_pick) {zs : List PyData} (hz : zs.length < 1000000) {xs : List PyData} (hx : xs ≠ []) :
    ∃ x zs', x ∈ xs ∧ zs'.length = zs.length + 1 ∧ run sc fu tab (n + 2) 6 [.s, .c 0, .d (.list xs)] [zs] = .ok (.d x) [zs'] := by
  obtain ⟨x, h1, h2⟩ := law_pick_ok (sc := sc) (fu := fu) (n := n) (S := [zs]) h5 h (c := 0) rfl (Nat.lt_of_lt_of_le hz (by decide)) hx
  exact ⟨x, zs ++ [.int 0], h1, by simp, by rw [h2]; rfl⟩
theorem draw1 (h : Has tab 5 d5_law_draw) {zs : List PyData} (hz : zs.length < 1000000) {many : Int} (hm : 0 < many) :
    ∃ k zs', 0 ≤ k ∧ k < many ∧ zs'.length = zs.length + 1 ∧ run sc fu tab (n + 1) 5 [.s, .c 0, .d (.int many)] [zs] = .ok (.d (.int k)) [zs'] := by
  obtain ⟨h1, h2⟩ := drawV_lt sc (zs.length + 1) hm
  exact ⟨_, zs ++ [.int 0], h1, h2, by simp, by rw [law_draw_ok (sc := sc) (fu := fu) (n := n) (S := [zs]) h (c := 0) rfl (Nat.lt_of_lt_of_le hz (by decide)) hm]; rfl⟩
end
end Ev

set_option Elab.async false
set_option linter.all false
set_option maxRecDepth 100000
set_option maxHeartbeats 1000000
namespace Ev
open PySem L2 Fns
section
variable {sc : List Int} {fu : Nat} {tab : Nat → Option Fn} {n : Nat} {S : Sto}
/-! ### loops -/
theorem lcL_map {te : En → Sto → R U} {tt : En → Sto → R Bool} {g : G} {all : List PyData} {σ : En} (f : PyData → PyData) :
    ∀ (items acc : List PyData), (∀ x ∈ items, ∃ σ2, g.put (.d x) σ = some σ2 ∧ tt σ2 S = .ok true S ∧ te σ2 S = .ok (.d (f x)) S) → acc.length + items.length ≤ sizeLine →
    lcL te tt g none all σ items S acc = .ok (acc ++ items.map f) S
  | [], acc, _, _ => by simp [-Int.pred_toNat, lcL_nil]
  | x :: r, acc, h, hl => by
    obtain ⟨σ2, e1, e2, e3⟩ := h x List.mem_cons_self
    rw [List.length_cons] at hl
    rw [lcL_cons _ _ _ _ _ _ _ _ e1, e2, lcT1_t, e3, lcT2_ok, if_pos (by omega), lcL_map f r (acc ++ [f x]) (fun y hy => h y (List.mem_cons_of_mem _ hy)) (by simp; omega)]
    simp
theorem lcL_flt {te : En → Sto → R U} {tt : En → Sto → R Bool} {g : G} {all : List PyData} {σ : En} (p : PyData → Bool) (f : PyData → PyData) :
    ∀ (items acc : List PyData), (∀ x ∈ items, ∃ σ2, g.put (.d x) σ = some σ2 ∧ tt σ2 S = .ok (p x) S ∧ (p x = true → te σ2 S = .ok (.d (f x)) S)) → acc.length + items.length ≤ sizeLine →
    lcL te tt g none all σ items S acc = .ok (acc ++ (items.filter p).map f) S
  | [], acc, _, _ => by simp [-Int.pred_toNat, lcL_nil]
  | x :: r, acc, h, hl => by
    obtain ⟨σ2, e1, e2, e3⟩ := h x List.mem_cons_self
    rw [List.length_cons] at hl
    rw [lcL_cons _ _ _ _ _ _ _ _ e1, e2]
    cases hp : p x with
    | true =>
      rw [lcT1_t, e3 hp, lcT2_ok, if_pos (by omega), lcL_flt p f r (acc ++ [f x]) (fun y hy => h y (List.mem_cons_of_mem _ hy)) (by simp; omega)]
      simp [-Int.pred_toNat, hp]
    | false =>
      rw [lcT1_f, lcL_flt p f r acc (fun y hy => h y (List.mem_cons_of_mem _ hy)) (by omega)]
      simp [-Int.pred_toNat, hp]
theorem lcL_any {te : En → Sto → R U} {tt : En → Sto → R Bool} {g : G} {all : List PyData} {σ : En} (Q : PyData → Prop) (I : Nat → Sto → Prop)
    (hs : ∀ x S k, I (k + 1) S → ∃ σ2, g.put (.d x) σ = some σ2 ∧ tt σ2 S = .ok true S ∧ ∃ y S', te σ2 S = .ok (.d y) S' ∧ Q y ∧ I k S') :
    ∀ (items acc : List PyData) (S : Sto), I items.length S → acc.length + items.length ≤ sizeLine →
    ∃ ys S', lcL te tt g none all σ items S acc = .ok (acc ++ ys) S' ∧ ys.length = items.length ∧ (∀ y ∈ ys, Q y) ∧ I 0 S'
  | [], acc, S, h, _ => ⟨[], S, by simp [-Int.pred_toNat, lcL_nil], rfl, by simp, h⟩
  | x :: r, acc, S, h, hl => by
    rw [List.length_cons] at hl h
    obtain ⟨σ2, e1, e2, y, S', e3, q, i⟩ := hs x S _ h
    obtain ⟨ys, S2, e4, l4, q4, i4⟩ := lcL_any Q I hs r (acc ++ [y]) S' i (by simp; omega)
    refine ⟨y :: ys, S2, ?_, by simp [-Int.pred_toNat, l4], ?_, i4⟩
    · rw [lcL_cons _ _ _ _ _ _ _ _ e1, e2, lcT1_t, e3, lcT2_ok, if_pos (by omega), e4]
      simp
    · intro z hz
      rcases List.mem_cons.mp hz with rfl | hz
      · exact q
      · exact q4 z hz
theorem whlL_t {tst : En → Sto → R Bool} {body : En → Sto → R Fl} {k : Nat} {σ σ3 : En} {S1 S2 : Sto} (h1 : tst σ S = .ok true S1) (h2 : body σ S1 = .ok (.nx σ3) S2) :
    whlL tst body (k + 1) σ S = whlL tst body k σ3 S2 := by
  rw [whlL, h1, sx_ok, if_pos rfl, h2, bd_ok]
theorem whlL_f {tst : En → Sto → R Bool} {body : En → Sto → R Fl} {k : Nat} {σ : En} {S1 : Sto} (h1 : tst σ S = .ok false S1) :
    whlL tst body (k + 1) σ S = .ok (.nx σ) S1 := by
  rw [whlL, h1, sx_ok, if_neg Bool.false_ne_true]
theorem rngP_mem : ∀ {k : Nat} {lo : Int} {x : PyData}, x ∈ rngP lo k → ∃ i, x = .int i ∧ lo ≤ i ∧ i < lo + k
  | 0, _, _, h => by cases h
  | k + 1, lo, x, h => by
    rcases List.mem_cons.mp h with rfl | h
    · exact ⟨lo, rfl, by omega, by omega⟩
    · obtain ⟨i, e, h1, h2⟩ := rngP_mem h
      exact ⟨i, e, by omega, by omega⟩
theorem rngP_snoc : ∀ (k : Nat) (lo : Int), rngP lo (k + 1) = rngP lo k ++ [.int (lo + k)]
  | 0, lo => by simp [-Int.pred_toNat, rngP]
  | k + 1, lo => by
    rw [rngP, rngP_snoc k (lo + 1)]
    show _ = .int lo :: (rngP (lo + 1) k ++ [.int (lo + ((k + 1 : Nat) : Int))])
    have e : lo + 1 + (k : Int) = lo + ((k + 1 : Nat) : Int) := by omega
    rw [e]
theorem intsOf_map (g : PyData → Int) : ∀ l : List PyData, intsOf (l.map fun x => .int (g x)) = some (l.map g)
  | [] => rfl
  | x :: r => by rw [List.map_cons, intsOf, intsOf_map g r]; rfl
theorem bitsOf_map {α : Type} (g : α → Bool) : ∀ l : List α, bitsOf (l.map fun x => .bool (g x)) = some (l.map g)
  | [] => rfl
  | x :: r => by rw [List.map_cons, bitsOf, bitsOf_map g r]; rfl
/-! ### days and dates -/
def ylen (y : Int) : Int := if y % 4 = 0 then 366 else 365
theorem year_length_ok (h1 : Has tab 1 d1_is_long) (h : Has tab 10 d10_year_length) (y : Int) : run sc fu tab (n + 2) 10 [.d (.int y)] S = .ok (.d (.int (ylen y))) S := by
  rw [run_eq h rfl]
  by_cases hy : y % 4 = 0 <;> simp [-Int.pred_toNat, d10_year_length, entry, is_long_ok h1, ylen, hy]
/-- the days of the first months of a year -/
def msum (y : Int) : Nat → Int
  | 0 => 0
  | k + 1 => msum y k + mlen y ((k : Int) + 1)
theorem mlen_b (y m : Int) : 28 ≤ mlen y m ∧ mlen y m ≤ 31 := by
  unfold mlen
  split
  · split <;> omega
  · split <;> omega
theorem msum_le (y : Int) (k : Nat) : ∀ j : Nat, msum y k ≤ msum y (k + j)
  | 0 => Int.le_refl _
  | j + 1 => by
    have := msum_le y k j
    have h2 := mlen_b y (((k + j : Nat) : Int) + 1)
    show _ ≤ msum y (k + j) + mlen y (((k + j : Nat) : Int) + 1)
    omega
theorem msum_nn (y : Int) (k : Nat) : 0 ≤ msum y k := by
  have := msum_le y 0 k
  rw [Nat.zero_add] at this
  exact this
theorem msum_lt (y : Int) {i k : Nat} (h : i < k) : msum y i + mlen y ((i : Int) + 1) ≤ msum y k := by
  have := msum_le y (i + 1) (k - (i + 1))
  rw [show i + 1 + (k - (i + 1)) = k by omega] at this
  exact this
theorem msum_12 (y : Int) : msum y 12 = ylen y := by
  simp only [msum]
  unfold mlen ylen
  by_cases h : y % 4 = 0 <;> simp [-Int.pred_toNat, h]
def ypre (y : Int) : Int := 365 * (y - 2000) + (y - 2000 + 3) / 4
theorem ypre_s (y : Int) : ypre (y + 1) = ypre y + ylen y := by
  unfold ypre ylen
  by_cases h : y % 4 = 0
  · rw [if_pos h]; omega
  · rw [if_neg h]; omega
theorem ypre_mono {y z : Int} (h : y ≤ z) : ypre y ≤ ypre z := by
  unfold ypre; omega
def dayN (y m d : Int) : Int := ypre y + msum y (m - 1).toNat + d - 1
/-- a date -/
def Dt (y m d : Int) : Prop := 2000 ≤ y ∧ 1 ≤ m ∧ m ≤ 12 ∧ 1 ≤ d ∧ d ≤ mlen y m
theorem mlen_at {m : Int} (h : 1 ≤ m) (y : Int) : mlen y (((m - 1).toNat : Int) + 1) = mlen y m := by
  rw [show (((m - 1).toNat : Int) + 1) = m by omega]
theorem rest_lt {y m d : Int} (h : Dt y m d) : 0 ≤ msum y (m - 1).toNat + d - 1 ∧ msum y (m - 1).toNat + d - 1 < ylen y := by
  obtain ⟨h1, h2, h3, h4, h5⟩ := h
  have a := msum_nn y (m - 1).toNat
  have b := msum_lt y (i := (m - 1).toNat) (k := 12) (by omega)
  rw [mlen_at h2, msum_12] at b
  omega
theorem dayN_lt {y m d : Int} (h : Dt y m d) : ypre y ≤ dayN y m d ∧ dayN y m d < ypre (y + 1) := by
  have := rest_lt h
  rw [ypre_s]
  unfold dayN
  omega
theorem msum_rng (y : Int) : ∀ k : Nat, ((rngP 1 k).map fun x => mlen y (toI x)).sum = msum y k
  | 0 => rfl
  | k + 1 => by
    rw [rngP_snoc, List.map_append, List.sum_append, msum_rng y k]
    simp only [List.map_cons, List.map_nil, List.sum_cons, List.sum_nil, toI, msum]
    rw [Int.add_comm 1 (k : Int)]
    omega
theorem day_of_ok (h1 : Has tab 1 d1_is_long) (h2 : Has tab 2 d2_month_length) (h : Has tab 11 d11_day_of) {y m d : Int} (hy : 2000 ≤ y) (hy2 : y ≤ 1000000) (hm : 1 ≤ m) (hm2 : m ≤ 1000) :
    run sc fu tab (n + 3) 11 [.d (.tuple [.int y, .int m, .int d])] S = .ok (.d (.int (dayN y m d))) S := by
  rw [run_eq h rfl]
  obtain ⟨k, hk⟩ : ∃ k, (m - 1).toNat = k := ⟨_, rfl⟩
  have hk2 : k ≤ 1000 := by omega
  have m1 : mulOk 365 (y - 2000) = true := mulOk_l (by decide) (by decide)
  have r1 : ∀ S, rngO 1 m S = .ok (rngP 1 k, none) S := fun S => by rw [← hk]; exact rngO_ok (by decide) (by decide) (by omega) (by omega)
  have key : lcL (ev (run sc fu tab (n + 2)) sc (.call 2 (.cons (.var 4) (.cons (.var 7) .nil)))) (evTs (run sc fu tab (n + 2)) sc .nil) (.nm 7) none (rngP 1 k)
      [some (.d (.tuple [.int y, .int m, .int d])), some (.d (.int (y - 2000))), some (.d (.int (365 * (y - 2000) + (y - 2000 + 3) / 4))), none, some (.d (.int y)), some (.d (.int m)), some (.d (.int d)), none] (rngP 1 k) S []
      = .ok ([] ++ (rngP 1 k).map fun x => .int (mlen y (toI x))) S := by
    refine lcL_map _ _ _ (fun x hx => ?_) ?_
    · obtain ⟨i, rfl, _, _⟩ := rngP_mem hx
      refine ⟨_, rfl, rfl, ?_⟩
      simp [-Int.pred_toNat, month_length_ok h1 h2, toI]
    · have := rngP_len k 1
      rw [this]
      exact Nat.le_trans (show _ ≤ 1000 by simp; omega) (by decide)
  simp only [d11_day_of, entry]
  simp [-Int.pred_toNat, m1, r1]
  rw [key]
  have e := intsOf_map (fun x => mlen y (toI x)) (rngP 1 k)
  simp [-Int.pred_toNat, e, msum_rng]
  rw [dayN, hk]
  rfl
theorem weekday_ok (h : Has tab 13 d13_weekday) (k : Int) : run sc fu tab (n + 1) 13 [.d (.int k)] S = .ok (.d (.int ((k + 5) % 7))) S := by
  rw [run_eq h rfl]
  simp [-Int.pred_toNat, d13_weekday, entry]
/-- the months' loop -/
def mTst : E := .cmp .ge (.var 4) (.call 2 (.cons (.var 1) (.cons (.var 2) .nil)))
def mBod : Ts := .cons (.aug 4 .sub (.call 2 (.cons (.var 1) (.cons (.var 2) .nil)))) (.cons (.aug 2 .add (.int 1)) .nil)
theorem months_loop (h1 : Has tab 1 d1_is_long) (h2 : Has tab 2 d2_month_length) (g0 g3 : Option U) (y d : Int) (k : Nat) (hd : 1 ≤ d) (hd2 : d ≤ mlen y ((k : Int) + 1)) :
    ∀ (j i f : Nat), i + j = k → j < f → whlL (tv (run sc fu tab (n + 2)) sc mTst) (exs (run sc fu tab (n + 2)) sc fu mBod) f
      [g0, some (.d (.int y)), some (.d (.int ((i : Int) + 1))), g3, some (.d (.int (msum y k - msum y i + d - 1)))] S
      = .ok (.nx [g0, some (.d (.int y)), some (.d (.int ((k : Int) + 1))), g3, some (.d (.int (d - 1)))]) S
  | 0, i, f, e, hf => by
    obtain ⟨f, rfl⟩ : ∃ f', f = f' + 1 := ⟨f - 1, by omega⟩
    have : i = k := by omega
    subst this
    rw [whlL_f (S1 := S)]
    · rw [show msum y i - msum y i + d - 1 = d - 1 by omega]
    · rw [show msum y i - msum y i + d - 1 = d - 1 by omega]
      have hn : ¬ (mlen y ((i : Int) + 1) ≤ d - 1) := by omega
      simp [-Int.pred_toNat, mTst, month_length_ok h1 h2, hn]
  | j + 1, i, f, e, hf => by
    obtain ⟨f, rfl⟩ : ∃ f', f = f' + 1 := ⟨f - 1, by omega⟩
    have hl := msum_lt y (i := i) (k := k) (by omega)
    rw [whlL_t (S1 := S) (S2 := S) (σ3 := [g0, some (.d (.int y)), some (.d (.int (((i + 1 : Nat) : Int) + 1))), g3, some (.d (.int (msum y k - msum y (i + 1) + d - 1)))])]
    · exact months_loop h1 h2 g0 g3 y d k hd hd2 j (i + 1) f (by omega) (by omega)
    · have hn : mlen y ((i : Int) + 1) ≤ msum y k - msum y i + d - 1 := by omega
      simp [-Int.pred_toNat, mTst, month_length_ok h1 h2, hn]
    · have e1 : msum y k - msum y (i + 1) + d - 1 = msum y k - msum y i + d - 1 - mlen y ((i : Int) + 1) := by
        show msum y k - (msum y i + mlen y ((i : Int) + 1)) + d - 1 = _
        omega
      have e2 : ((i + 1 : Nat) : Int) + 1 = (i : Int) + 1 + 1 := rfl
      rw [e1, e2]
      simp [-Int.pred_toNat, mBod, month_length_ok h1 h2]
def yTst : E := .cmp .ge (.var 4) (.call 10 (.cons (.var 1) .nil))
def yBod : Ts := .cons (.aug 4 .sub (.call 10 (.cons (.var 1) .nil))) (.cons (.aug 1 .add (.int 1)) .nil)
theorem years_loop (h1 : Has tab 1 d1_is_long) (h10 : Has tab 10 d10_year_length) (g0 g2 g3 : Option U) (y r : Int) (hr : 0 ≤ r) (hr2 : r < ylen y) :
    ∀ (j : Nat) (i : Int) (f : Nat), i + j = y → j < f → whlL (tv (run sc fu tab (n + 2)) sc yTst) (exs (run sc fu tab (n + 2)) sc fu yBod) f
      [g0, some (.d (.int i)), g2, g3, some (.d (.int (ypre y - ypre i + r)))] S
      = .ok (.nx [g0, some (.d (.int y)), g2, g3, some (.d (.int r))]) S
  | 0, i, f, e, hf => by
    obtain ⟨f, rfl⟩ : ∃ f', f = f' + 1 := ⟨f - 1, by omega⟩
    have : i = y := by omega
    subst this
    rw [show ypre i - ypre i + r = r by omega, whlL_f (S1 := S)]
    have hn : ¬ (ylen i ≤ r) := by omega
    simp [-Int.pred_toNat, yTst, year_length_ok h1 h10, hn]
  | j + 1, i, f, e, hf => by
    obtain ⟨f, rfl⟩ : ∃ f', f = f' + 1 := ⟨f - 1, by omega⟩
    have hl := ypre_s i
    have hl2 : ypre (i + 1) ≤ ypre y := ypre_mono (by omega)
    rw [whlL_t (S1 := S) (S2 := S) (σ3 := [g0, some (.d (.int (i + 1))), g2, g3, some (.d (.int (ypre y - ypre (i + 1) + r)))])]
    · exact years_loop h1 h10 g0 g2 g3 y r hr hr2 j (i + 1) f (by omega) (by omega)
    · have hn : ylen i ≤ ypre y - ypre i + r := by omega
      simp [-Int.pred_toNat, yTst, year_length_ok h1 h10, hn]
    · have e1 : ypre y - ypre (i + 1) + r = ypre y - ypre i + r - ylen i := by omega
      rw [e1]
      simp [-Int.pred_toNat, yBod, year_length_ok h1 h10]
theorem date_of_ok (h1 : Has tab 1 d1_is_long) (h2 : Has tab 2 d2_month_length) (h10 : Has tab 10 d10_year_length) (h : Has tab 12 d12_date_of) {y m d : Int} (hD : Dt y m d) (hf : 20 ≤ fu) :
    run sc fu tab (n + 3) 12 [.d (.int (dayN y m d))] S = .ok (.d (.tuple [.int y, .int m, .int d])) S := by
  rw [run_eq h rfl]
  obtain ⟨rl, rl2⟩ := rest_lt hD
  obtain ⟨hy, hm1, hm2, hd1, hd2⟩ := hD
  have hq : ypre (2000 + 4 * ((y - 2000) / 4)) = 1461 * ((y - 2000) / 4) := by unfold ypre; omega
  have hq2 : ypre y + ylen y ≤ 1461 * ((y - 2000) / 4) + 1461 := by
    rw [← ypre_s]
    have : ypre (2000 + 4 * ((y - 2000) / 4 + 1)) = 1461 * ((y - 2000) / 4 + 1) := by unfold ypre; omega
    have h3 := ypre_mono (y := y + 1) (z := 2000 + 4 * ((y - 2000) / 4 + 1)) (by omega)
    omega
  have hq3 : 1461 * ((y - 2000) / 4) ≤ ypre y := by rw [← hq]; exact ypre_mono (by omega)
  have hdv : dayN y m d / 1461 = (y - 2000) / 4 := by unfold dayN; omega
  have hmd : dayN y m d % 1461 = ypre y - ypre (2000 + 4 * ((y - 2000) / 4)) + (msum y (m - 1).toNat + d - 1) := by rw [hq]; unfold dayN; omega
  have d1461 : divOk 1461 = true := divOk_of (by decide) (by decide)
  have m4 : mulOk 4 ((y - 2000) / 4) = true := mulOk_l (by decide) (by decide)
  have yl := years_loop (sc := sc) (fu := fu) (tab := tab) (n := n) (S := S) h1 h10 (some (.d (.int (dayN y m d)))) none (some (.d (.int ((y - 2000) / 4)))) y (msum y (m - 1).toNat + d - 1) rl rl2 (y - 2000 - 4 * ((y - 2000) / 4)).toNat (2000 + 4 * ((y - 2000) / 4)) fu (by omega) (by omega)
  have ml := months_loop (sc := sc) (fu := fu) (tab := tab) (n := n) (S := S) h1 h2 (some (.d (.int (dayN y m d)))) (some (.d (.int ((y - 2000) / 4)))) y d (m - 1).toNat hd1 (by rw [mlen_at hm1]; exact hd2) (m - 1).toNat 0 fu (by omega) (by omega)
  have z0 : msum y 0 = 0 := rfl
  have z1 : ((0 : Nat) : Int) + 1 = 1 := rfl
  have z2 : (((m - 1).toNat : Nat) : Int) + 1 = m := by omega
  rw [z0, z1, Int.sub_zero, z2] at ml
  simp only [yTst, yBod] at yl
  simp only [mTst, mBod] at ml
  simp only [d12_date_of, entry]
  simp [-Int.pred_toNat, d1461, hdv, hmd, m4]
  rw [yl]
  simp [-Int.pred_toNat]
  rw [ml]
  simp [-Int.pred_toNat]
end
end Ev

set_option Elab.async false
set_option linter.all false
set_option maxRecDepth 100000
set_option maxHeartbeats 1000000
namespace Ev
open PySem L2 Fns
section
variable {sc : List Int} {fu : Nat} {tab : Nat → Option Fn} {n : Nat} {S : Sto}
/-! ### what is told is what is due -/
def plainV : Nat → PyData → Bool
  | 0, _ => false
  | _ + 1, .none => true
  | _ + 1, .bool _ => true
  | _ + 1, .int _ => true
  | _ + 1, .str z => SeqAt.shaped (.str z)
  | k + 1, .tuple xs => decide (xs.length ≤ sizeLine) && xs.all (plainV k)
  | _, _ => false
@[simp] theorem plain_none (k : Nat) : plainV (k + 1) .none = true := id rfl
@[simp] theorem plain_bool (k : Nat) (b : Bool) : plainV (k + 1) (.bool b) = true := id rfl
@[simp] theorem plain_int (k : Nat) (b : Int) : plainV (k + 1) (.int b) = true := id rfl
theorem plain_tuple (k : Nat) (xs : List PyData) : plainV (k + 1) (.tuple xs) = (decide (xs.length ≤ sizeLine) && xs.all (plainV k)) := rfl
theorem plain_tup {k : Nat} {xs : List PyData} (hl : xs.length ≤ 1000) (h : xs.all (plainV k) = true) : plainV (k + 1) (.tuple xs) = true := by
  rw [plain_tuple, h, Bool.and_true]
  exact decide_eq_true (Nat.le_trans hl (by decide))
theorem zip_mem : ∀ {xs : List PyData} {z : PyData}, z ∈ zipP xs xs → ∃ x ∈ xs, z = .tuple [x, x]
  | [], z, h => by cases h
  | x :: r, z, h => by
    rcases List.mem_cons.mp h with rfl | h
    · exact ⟨x, List.mem_cons_self, rfl⟩
    · obtain ⟨y, h1, h2⟩ := zip_mem h
      exact ⟨y, List.mem_cons_of_mem _ h1, h2⟩
theorem zip_len : ∀ xs : List PyData, (zipP xs xs).length = xs.length
  | [] => rfl
  | x :: r => by rw [zipP_cons, List.length_cons, List.length_cons, zip_len r]
theorem all_true {α : Type} : ∀ l : List α, (l.map fun _ => true).all id = true
  | [] => rfl
  | x :: r => by rw [List.map_cons, List.all_cons, all_true r]; rfl
theorem eqv_str (z : Str) : PyData.eqv (.str z) (.str z) = true := by simp [-Int.pred_toNat, PyData.eqv]
theorem law_same_refl (h : Has tab 4 d4_law_same) : ∀ (k : Nat) (x : PyData), plainV k x = true → run sc fu tab (n + k) 4 [.d x, .d x] S = .ok (.d (.bool true)) S
  | 0, x, hp => by cases hp
  | k + 1, x, hp => by
    rw [show n + (k + 1) = (n + k) + 1 by omega, run_eq h rfl]
    cases x with
    | none => simp [-Int.pred_toNat, d4_law_same, entry]
    | bool b => simp [-Int.pred_toNat, d4_law_same, entry]
    | int i => simp [-Int.pred_toNat, d4_law_same, entry]
    | str z =>
      have hz : SeqAt.shaped (.str z) = true := hp
      simp [-Int.pred_toNat, d4_law_same, entry, hz, eqv_str]
    | list xs => cases hp
    | dict xs => cases hp
    | tuple xs =>
      rw [plain_tuple, Bool.and_eq_true, decide_eq_true_eq, List.all_eq_true] at hp
      have key : lcL (ev (run sc fu tab (n + k)) sc (.call 4 (.cons (.var 2) (.cons (.var 3) .nil)))) (evTs (run sc fu tab (n + k)) sc .nil) (.tp [2, 3]) none (zipP xs xs)
          [some (.d (.tuple xs)), some (.d (.tuple xs)), none, none] (zipP xs xs) S [] = .ok ([] ++ (zipP xs xs).map fun _ => .bool true) S := by
        refine lcL_map _ _ _ (fun z hz => ?_) ?_
        · obtain ⟨x, hx, rfl⟩ := zip_mem hz
          refine ⟨_, rfl, rfl, ?_⟩
          simp [-Int.pred_toNat, law_same_refl h k x (hp.2 x hx)]
        · rw [zip_len]
          simpa using hp.1
      simp only [d4_law_same, entry]
      simp
      rw [key]
      have e := bitsOf_map (fun _ : PyData => true) (zipP xs xs)
      simp [-Int.pred_toNat, e]
/-! ### dates by hand -/
def later (y m d : Int) : Int × Int × Int := if d < mlen y m then (y, m, d + 1) else if m < 12 then (y, m + 1, 1) else (y + 1, 1, 1)
def dtD (p : Int × Int × Int) : PyData := .tuple [.int p.1, .int p.2.1, .int p.2.2]
theorem law_later_ok (h7 : Has tab 7 d7_law_length) (h : Has tab 14 d14_law_later) (y m d : Int) : run sc fu tab (n + 2) 14 [.d (.tuple [.int y, .int m, .int d])] S = .ok (.d (dtD (later y m d))) S := by
  rw [run_eq h rfl]
  by_cases h1 : d < mlen y m
  · simp [-Int.pred_toNat, d14_law_later, entry, law_length_ok h7, later, dtD, h1]
  · by_cases h2 : m < 12
    · simp [-Int.pred_toNat, d14_law_later, entry, law_length_ok h7, later, dtD, h1, h2]
    · simp [-Int.pred_toNat, d14_law_later, entry, law_length_ok h7, later, dtD, h1, h2]
theorem later_day {y m d : Int} (h : Dt y m d) : dayN (later y m d).1 (later y m d).2.1 (later y m d).2.2 = dayN y m d + 1 := by
  obtain ⟨h1, h2, h3, h4, h5⟩ := h
  unfold later
  split
  · simp only [dayN]; omega
  · split
    · simp only [dayN]
      rw [show (m + 1 - 1).toNat = (m - 1).toNat + 1 by omega]
      show ypre y + (msum y (m - 1).toNat + mlen y (((m - 1).toNat : Int) + 1)) + 1 - 1 = _
      rw [mlen_at h2]
      omega
    · have hm : m = 12 := by omega
      subst hm
      simp only [dayN]
      rw [ypre_s, ← msum_12]
      show ypre y + (msum y 11 + mlen y 12) + 0 + 1 - 1 = ypre y + msum y 11 + d - 1 + 1
      omega
theorem later_dt {y m d : Int} (h : Dt y m d) : Dt (later y m d).1 (later y m d).2.1 (later y m d).2.2 := by
  obtain ⟨h1, h2, h3, h4, h5⟩ := h
  unfold later
  split
  · exact ⟨h1, h2, h3, by simp only; omega, by simp only; omega⟩
  · split
    · have := mlen_b y (m + 1)
      exact ⟨h1, by simp only; omega, by simp only; omega, Int.le_refl _, by simp only; omega⟩
    · have := mlen_b (y + 1) 1
      exact ⟨by simp only; omega, Int.le_refl _, by simp only; omega, Int.le_refl _, by simp only; omega⟩
def dBod : Ts := .cons (.asg (.nm 1) (.bin .add (.bin .add (.var 1) (.int 337)) (.call 7 (.cons (.var 2) (.cons (.int 2) .nil))))) .nil
theorem mlen2 (y : Int) : 337 + mlen y 2 = ylen y := by unfold mlen ylen; split <;> split <;> omega
theorem dyear_loop (h7 : Has tab 7 d7_law_length) (g0 g3 : Option U) (all : List PyData) : ∀ (k : Nat) (y got : Int) (g2 : Option U), ∃ g2',
    forL (exs (run sc fu tab (n + 1)) sc fu dBod) (.nm 2) none all (rngP y k) [g0, some (.d (.int got)), g2, g3] S = .ok (.nx [g0, some (.d (.int (got + (ypre (y + k) - ypre y)))), g2', g3]) S
  | 0, y, got, g2 => ⟨g2, by rw [show got + (ypre (y + ((0 : Nat) : Int)) - ypre y) = got by simp]; rfl⟩
  | k + 1, y, got, g2 => by
    obtain ⟨g2', e⟩ := dyear_loop h7 g0 g3 all k (y + 1) (got + 337 + mlen y 2) (some (.d (.int y)))
    refine ⟨g2', ?_⟩
    have hb : exs (run sc fu tab (n + 1)) sc fu dBod [g0, some (.d (.int got)), some (.d (.int y)), g3] S = .ok (.nx [g0, some (.d (.int (got + 337 + mlen y 2))), some (.d (.int y)), g3]) S := by
      simp [-Int.pred_toNat, dBod, law_length_ok h7]
    rw [rngP, forL_cons (σ2 := [g0, some (.d (.int got)), some (.d (.int y)), g3]) _ _ _ _ _ rfl, hb, forT_nx, e]
    have e2 : got + 337 + mlen y 2 + (ypre (y + 1 + (k : Int)) - ypre (y + 1)) = got + (ypre (y + ((k + 1 : Nat) : Int)) - ypre y) := by
      rw [show y + ((k + 1 : Nat) : Int) = y + 1 + (k : Int) by omega]
      have := ypre_s y
      have := mlen2 y
      omega
    rw [e2]
def eBod : Ts := .cons (.asg (.nm 1) (.bin .add (.var 1) (.call 7 (.cons (.ix (.var 0) (.int 0)) (.cons (.var 3) .nil))))) .nil
theorem dmonth_loop (h7 : Has tab 7 d7_law_length) (y m d : Int) (g2 : Option U) (all : List PyData) : ∀ (k i : Nat) (got : Int) (g3 : Option U), ∃ g3',
    forL (exs (run sc fu tab (n + 1)) sc fu eBod) (.nm 3) none all (rngP ((i : Int) + 1) k) [some (.d (.tuple [.int y, .int m, .int d])), some (.d (.int got)), g2, g3] S = .ok (.nx [some (.d (.tuple [.int y, .int m, .int d])), some (.d (.int (got + (msum y (i + k) - msum y i)))), g2, g3']) S
  | 0, i, got, g3 => ⟨g3, by rw [show got + (msum y (i + 0) - msum y i) = got by simp]; rfl⟩
  | k + 1, i, got, g3 => by
    obtain ⟨g3', e⟩ := dmonth_loop h7 y m d g2 all k (i + 1) (got + mlen y ((i : Int) + 1)) (some (.d (.int ((i : Int) + 1))))
    refine ⟨g3', ?_⟩
    have hb : exs (run sc fu tab (n + 1)) sc fu eBod [some (.d (.tuple [.int y, .int m, .int d])), some (.d (.int got)), g2, some (.d (.int ((i : Int) + 1)))] S = .ok (.nx [some (.d (.tuple [.int y, .int m, .int d])), some (.d (.int (got + mlen y ((i : Int) + 1)))), g2, some (.d (.int ((i : Int) + 1)))]) S := by
      simp [-Int.pred_toNat, eBod, law_length_ok h7]
    rw [rngP, forL_cons (σ2 := [some (.d (.tuple [.int y, .int m, .int d])), some (.d (.int got)), g2, some (.d (.int ((i : Int) + 1)))]) _ _ _ _ _ rfl, hb, forT_nx]
    rw [show ((i : Int) + 1 + 1) = ((i + 1 : Nat) : Int) + 1 from rfl, e]
    have e2 : got + mlen y ((i : Int) + 1) + (msum y (i + 1 + k) - msum y (i + 1)) = got + (msum y (i + (k + 1)) - msum y i) := by
      rw [show i + (k + 1) = i + 1 + k by omega]
      have : msum y (i + 1) = msum y i + mlen y ((i : Int) + 1) := rfl
      omega
    rw [e2]
theorem law_day_ok (h7 : Has tab 7 d7_law_length) (h : Has tab 15 d15_law_day) {y m d : Int} (hy : 2000 ≤ y) (hy2 : y ≤ 1000000) (hm : 1 ≤ m) (hm2 : m ≤ 1000) :
    run sc fu tab (n + 2) 15 [.d (.tuple [.int y, .int m, .int d])] S = .ok (.d (.int (dayN y m d))) S := by
  rw [run_eq h rfl]
  obtain ⟨k, hk⟩ : ∃ k, (m - 1).toNat = k := ⟨_, rfl⟩
  obtain ⟨j, hj⟩ : ∃ j, (y - 2000).toNat = j := ⟨_, rfl⟩
  have r1 : ∀ S, rngO 1 m S = .ok (rngP 1 k, none) S := fun S => by rw [← hk]; exact rngO_ok (by decide) (by decide) (by omega) (by omega)
  have r2 : ∀ S, rngO 2000 y S = .ok (rngP 2000 j, none) S := fun S => by rw [← hj]; exact rngO_ok (by decide) (by decide) (by omega) (by omega)
  obtain ⟨g2, e1⟩ := dyear_loop (sc := sc) (fu := fu) (tab := tab) (n := n) (S := S) h7 (some (.d (.tuple [.int y, .int m, .int d]))) none (rngP 2000 j) j 2000 0 none
  have e1' : (0 : Int) + (ypre (2000 + (j : Int)) - ypre 2000) = ypre y := by
    rw [show (2000 : Int) + (j : Int) = y by omega]
    have : ypre 2000 = 0 := by decide
    omega
  rw [e1'] at e1
  obtain ⟨g3, e2⟩ := dmonth_loop (sc := sc) (fu := fu) (tab := tab) (n := n) (S := S) h7 y m d g2 (rngP 1 k) k 0 (ypre y) none
  have e2' : ypre y + (msum y (0 + k) - msum y 0) = ypre y + msum y k := by
    rw [Nat.zero_add]
    show _ + (msum y k - 0) = _
    omega
  rw [e2', show ((0 : Nat) : Int) + 1 = 1 from rfl] at e2
  simp only [dBod] at e1
  simp only [eBod] at e2
  simp only [d15_law_day, entry]
  simp [-Int.pred_toNat, r2]
  rw [e1]
  simp [-Int.pred_toNat, r1]
  rw [e2]
  simp [-Int.pred_toNat]
  rw [dayN, hk]
theorem law_date_ok (h5 : Has tab 5 d5_law_draw) (h7 : Has tab 7 d7_law_length) (h : Has tab 16 d16_law_date) {zs : List PyData} (hz : zs.length < 900000) :
    ∃ y m d zs', Dt y m d ∧ y ≤ 2099 ∧ zs'.length = zs.length + 3 ∧ run sc fu tab (n + 2) 16 [.s, .c 0] [zs] = .ok (.d (.tuple [.int y, .int m, .int d])) [zs'] := by
  obtain ⟨a, z1, a0, a1, l1, e1⟩ := draw1 (sc := sc) (fu := fu) (tab := tab) (n := n) (zs := zs) h5 (by omega) (many := 100) (by decide)
  obtain ⟨b, z2, b0, b1, l2, e2⟩ := draw1 (sc := sc) (fu := fu) (tab := tab) (n := n) (zs := z1) h5 (by omega) (many := 12) (by decide)
  have hl := mlen_b (2000 + a) (1 + b)
  obtain ⟨c, z3, c0, c1, l3, e3⟩ := draw1 (sc := sc) (fu := fu) (tab := tab) (n := n) (zs := z2) h5 (by omega) (many := mlen (2000 + a) (1 + b)) (by omega)
  refine ⟨2000 + a, 1 + b, 1 + c, z3, ⟨by omega, by omega, by omega, by omega, by omega⟩, by omega, by omega, ?_⟩
  rw [run_eq h rfl]
  simp only [d16_law_date, entry]
  simp [-Int.pred_toNat, e1, e2, e3, law_length_ok h7]
end
end Ev

set_option Elab.async false
set_option linter.all false
set_option maxRecDepth 100000
set_option maxHeartbeats 1000000
namespace Ev
open PySem L2 Fns
section
variable {sc : List Int} {fu : Nat} {tab : Nat → Option Fn} {n : Nat} {S : Sto}
/-! ### months on -/
def onT (y m k : Int) : Int := 12 * y + m - 1 + k
def inY (t : Int) : Bool := decide (2000 ≤ t / 12) && decide (t / 12 ≤ 2099)
def minI (a b : Int) : Int := if b < a then b else a
def onD (t d : Int) : PyData := .tuple [.int (t / 12), .int (t % 12 + 1), .int (minI d (mlen (t / 12) (t % 12 + 1)))]
theorem months_on_ok (h0 : Has tab 0 d0_is_whole) (h1 : Has tab 1 d1_is_long) (h2 : Has tab 2 d2_month_length) (h : Has tab 18 d18_months_on) (y m d k : Int) :
    run sc fu tab (n + 3) 18 [.d (.tuple [.int y, .int m, .int d]), .d (.int k)] S = if inY (onT y m k) then .ok (.d (onD (onT y m k) d)) S else .exc "NoDate" S := by
  rw [run_eq h rfl]
  have m1 : mulOk 12 y = true := mulOk_l (by decide) (by decide)
  have w := is_whole_ok (sc := sc) (fu := fu) (n := n + 1) (S := S) h0 (.int (onT y m k / 12)) 2000 2099 rfl
  have wi : wholeP (.int (onT y m k / 12)) 2000 2099 = inY (onT y m k) := rfl
  rw [wi] at w
  have ml := month_length_ok (sc := sc) (fu := fu) (n := n) (S := S) h1 h2 (onT y m k / 12) (onT y m k % 12 + 1)
  have et : 12 * y + m - 1 + k = onT y m k := rfl
  cases hi : inY (onT y m k) with
  | true => simp [d18_months_on, entry, m1, et, w, hi, ml, onD, minI]
  | false => simp [d18_months_on, entry, m1, et, w, hi]
def onV (y m d k : Int) : PyData := if inY (onT y m k) then onD (onT y m k) d else .str "NoDate"
theorem law_told3_ok (h0 : Has tab 0 d0_is_whole) (h1 : Has tab 1 d1_is_long) (h2 : Has tab 2 d2_month_length) (h18 : Has tab 18 d18_months_on) (h : Has tab 19 d19_law_told) (y m d k : Int) :
    run sc fu tab (n + 4) 19 [.d (.tuple [.int y, .int m, .int d]), .d (.int k)] S = .ok (.d (onV y m d k)) S := by
  rw [run_eq h rfl]
  have mo := months_on_ok (sc := sc) (fu := fu) (n := n) (S := S) h0 h1 h2 h18 y m d k
  cases hi : inY (onT y m k) with
  | true => simp [d19_law_told, entry, mo, hi, onV]
  | false => simp [d19_law_told, entry, mo, hi, onV]
def oBod : Ts := (.cons (.asg (.nm 4) (.bin .add (.var 4) (.ife (.cmp .gt (.var 1) (.int 0)) (.int 1) (.neg (.int 1))))) (.cons (.ife (.cmp .eq (.var 4) (.int 13))
      (.cons (.asg (.nm 4) (.int 1)) (.cons (.asg (.nm 3) (.bin .add (.var 3) (.int 1))) .nil))
      .nil) (.cons (.ife (.cmp .eq (.var 4) (.int 0))
      (.cons (.asg (.nm 4) (.int 12)) (.cons (.asg (.nm 3) (.bin .sub (.var 3) (.int 1))) .nil))
      .nil) .nil)))
def sg (k : Int) : Int := if 0 < k then 1 else -1
theorem on_step (g0 g2 g5 : Option U) (k t : Int) : exs (run sc fu tab n) sc fu oBod [g0, some (.d (.int k)), g2, some (.d (.int (t / 12))), some (.d (.int (t % 12 + 1))), g5] S
    = .ok (.nx [g0, some (.d (.int k)), g2, some (.d (.int ((t + sg k) / 12))), some (.d (.int ((t + sg k) % 12 + 1))), g5]) S := by
  by_cases hk : 0 < k
  · have es : sg k = 1 := if_pos hk
    by_cases h13 : t % 12 + 1 + 1 = 13
    · have e1 : (t + 1) / 12 = t / 12 + 1 := by omega
      have e2 : (t + 1) % 12 + 1 = 1 := by omega
      simp [oBod, hk, es, h13, e1, e2]
    · have e1 : (t + 1) / 12 = t / 12 := by omega
      have e2 : (t + 1) % 12 + 1 = t % 12 + 1 + 1 := by omega
      have h0 : ¬ t % 12 + 1 + 1 = 0 := by omega
      simp [oBod, hk, es, h13, e1, e2, h0]
  · have es : sg k = -1 := if_neg hk
    by_cases h0 : t % 12 + 1 + -1 = 0
    · have e1 : (t + -1) / 12 = t / 12 - 1 := by omega
      have e2 : (t + -1) % 12 + 1 = 12 := by omega
      have h13 : ¬ t % 12 + 1 + -1 = 13 := by omega
      simp [oBod, hk, es, h13, e1, e2, h0]
    · have e1 : (t + -1) / 12 = t / 12 := by omega
      have e2 : (t + -1) % 12 + 1 = t % 12 + 1 + -1 := by omega
      have h13 : ¬ t % 12 + 1 + -1 = 13 := by omega
      simp [oBod, hk, es, h13, e1, e2, h0]
theorem on_loop (all : List PyData) (g0 g5 : Option U) (k : Int) : ∀ (j : Nat) (lo t : Int) (g2 : Option U), ∃ g2',
    forL (exs (run sc fu tab n) sc fu oBod) (.nm 2) none all (rngP lo j) [g0, some (.d (.int k)), g2, some (.d (.int (t / 12))), some (.d (.int (t % 12 + 1))), g5] S
      = .ok (.nx [g0, some (.d (.int k)), g2', some (.d (.int ((t + sg k * j) / 12))), some (.d (.int ((t + sg k * j) % 12 + 1))), g5]) S
  | 0, lo, t, g2 => ⟨g2, by rw [show t + sg k * ((0 : Nat) : Int) = t by simp]; rfl⟩
  | j + 1, lo, t, g2 => by
    obtain ⟨g2', e⟩ := on_loop all g0 g5 k j (lo + 1) (t + sg k) (some (.d (.int lo)))
    refine ⟨g2', ?_⟩
    rw [rngP, forL_cons (σ2 := [g0, some (.d (.int k)), some (.d (.int lo)), some (.d (.int (t / 12))), some (.d (.int (t % 12 + 1))), g5]) _ _ _ _ _ rfl, on_step, forT_nx, e]
    have : t + sg k + sg k * (j : Int) = t + sg k * ((j + 1 : Nat) : Int) := by
      rw [show ((j + 1 : Nat) : Int) = (j : Int) + 1 from rfl, Int.mul_add, Int.mul_one]
      omega
    rw [this]
theorem law_on_ok (h7 : Has tab 7 d7_law_length) (h : Has tab 20 d20_law_on) {y m d k : Int} (hm : 1 ≤ m) (hm2 : m ≤ 12) (hk : -100000 ≤ k) (hk2 : k ≤ 100000) :
    run sc fu tab (n + 2) 20 [.d (.tuple [.int y, .int m, .int d]), .d (.int k)] S = .ok (.d (onV y m d k)) S := by
  rw [run_eq h rfl]
  obtain ⟨j, hj⟩ : ∃ j, (if k < 0 then -k else k).toNat = j := ⟨_, rfl⟩
  have hsj : sg k * (j : Int) = k := by
    unfold sg
    by_cases h0 : 0 < k
    · rw [if_pos h0, Int.one_mul, ← hj, if_neg (by omega)]; omega
    · rw [if_neg h0, ← hj]
      by_cases h1 : k < 0
      · rw [if_pos h1]; omega
      · rw [if_neg h1]; omega
  have r1 : ∀ S, rngO 0 (if k < 0 then -k else k) S = .ok (rngP 0 j, none) S := fun S => by
    have h1 : -100000 ≤ (if k < 0 then -k else k) := by split <;> omega
    have h2 : (if k < 0 then -k else k) ≤ 100000 := by split <;> omega
    have e := rngO_ok (S := S) (i := 0) (j := if k < 0 then -k else k) (by decide) (by decide) (by omega) (by omega)
    rw [Int.sub_zero, hj] at e
    exact e
  obtain ⟨g2, e⟩ := on_loop (sc := sc) (fu := fu) (tab := tab) (n := n + 1) (S := S) (rngP 0 j) (some (.d (.tuple [.int y, .int m, .int d]))) (some (.d (.int d))) k j 0 (12 * y + m - 1) none
  have e1 : (12 * y + m - 1) / 12 = y := by omega
  have e2 : (12 * y + m - 1) % 12 + 1 = m := by omega
  have e3 : 12 * y + m - 1 + sg k * (j : Int) = onT y m k := by rw [hsj]; rfl
  rw [e1, e2, e3] at e
  have ml := law_length_ok (sc := sc) (fu := fu) (n := n) (S := S) h7 (onT y m k / 12) (onT y m k % 12 + 1)
  simp only [oBod] at e
  simp only [d20_law_on, entry]
  simp [r1]
  rw [e]
  by_cases h1 : 2000 ≤ onT y m k / 12
  · have h1' : ¬ onT y m k / 12 < 2000 := by omega
    by_cases h2 : onT y m k / 12 ≤ 2099
    · have h2' : ¬ 2099 < onT y m k / 12 := by omega
      simp [onV, inY, h1, h2, h1', h2', ml, onD, minI]
    · have h2' : 2099 < onT y m k / 12 := by omega
      simp [onV, inY, h1, h2, h1', h2']
  · have h1' : onT y m k / 12 < 2000 := by omega
    simp [onV, inY, h1, h1']
theorem shaped_dt (a b c : Int) : SeqAt.shaped (.tuple [.int a, .int b, .int c]) = true := by simp [SeqAt.shaped, PyData.canLay0, PyData.canLayAll0, PyData.depth, PyData.depthAll]
theorem eqv_ts (xs : List PyData) (z : Str) : PyData.eqv (.tuple xs) (.str z) = false := by simp [PyData.eqv]
theorem shaped_nodate : SeqAt.shaped (.str "NoDate") = true := by decide +kernel
theorem on_back {y m d k : Int} (hD : Dt y m d) (hy : y ≤ 2099) (hd : d < 29) (hi : inY (onT y m k) = true) : onV (onT y m k / 12) (onT y m k % 12 + 1) (minI d (mlen (onT y m k / 12) (onT y m k % 12 + 1))) (0 - k) = .tuple [.int y, .int m, .int d] := by
  obtain ⟨h1, h2, h3, h4, h5⟩ := hD
  have e : onT (onT y m k / 12) (onT y m k % 12 + 1) (0 - k) = 12 * y + m - 1 := by unfold onT; omega
  have l1 := mlen_b (onT y m k / 12) (onT y m k % 12 + 1)
  have e2 : minI d (mlen (onT y m k / 12) (onT y m k % 12 + 1)) = d := if_neg (by omega)
  have e3 : (12 * y + m - 1) / 12 = y := by omega
  have e4 : (12 * y + m - 1) % 12 + 1 = m := by omega
  have e5 : minI d (mlen y m) = d := if_neg (by omega)
  unfold onV
  rw [e, e2, if_pos (by unfold inY; rw [e3]; simp [h1, hy])]
  unfold onD
  rw [e3, e4, e5]
end
end Ev

set_option Elab.async false
set_option linter.all false
set_option maxRecDepth 100000
set_option maxHeartbeats 4000000
namespace K03
open PySem L2 Ev Fns
def v4_law_same : Fn := ⟨"_law_same", 2, ["_law_told_here", "_law_due", "_law_one", "_law_other"], d4_law_same.body⟩
def tl : List (Nat × Fn) := [(0, d0_is_whole), (1, d1_is_long), (2, d2_month_length), (18, d18_months_on), (4, v4_law_same), (5, d5_law_draw), (7, d7_law_length), (16, d16_law_date), (19, d19_law_told), (20, d20_law_on), (21, d21_law)]
def tab (f : Nat) : Option Fn := tl.lookup f
def law_ix : Nat := 21
abbrev f_law : Fn := d21_law
def gs : List (Str × PyData) := [("LAST_YEAR", (.int 2099)), ("FIRST_YEAR", (.int 2000))]
def bs : List Str := ["range", "len", "isinstance", "bool", "int", "str", "tuple", "all", "zip", "min", "divmod", "abs"]
def xs : List Str := ["NoDate"]
def xm : List (Str × Str) := [("NoDate", "NoDate")]
def top (i : Nat) : Stmt := PySem.Challenge.pw_dodays_k03_whole_months_on.main.body.getD i (.Pass ⟨0, 0, 0, 0⟩)
abbrev s_d0_is_whole : Stmt := top 6
abbrev s_d1_is_long : Stmt := top 7
abbrev s_d2_month_length : Stmt := top 8
abbrev s_d18_months_on : Stmt := top 9
abbrev s_d4_law_same : Stmt := top 11
abbrev s_d5_law_draw : Stmt := top 12
abbrev s_d7_law_length : Stmt := top 14
abbrev s_d16_law_date : Stmt := top 17
abbrev s_d19_law_told : Stmt := top 18
abbrev s_d20_law_on : Stmt := top 19
abbrev s_d21_law : Stmt := top 20
theorem m_d0_is_whole : mTs d0_is_whole.body ⟨d0_is_whole.N, defScope s_d0_is_whole, gs, (fun f => (tab f).map (·.name)), bs, true, true, xs, xm⟩ (defBody s_d0_is_whole) = true := by decide +kernel
theorem sc_d0_is_whole : FnScope d0_is_whole.N (d0_is_whole.N.take d0_is_whole.ps) (defScope s_d0_is_whole) := ⟨rfl, rfl, rfl, by decide +kernel, rfl, by decide +kernel, by decide +kernel⟩
theorem m_d1_is_long : mTs d1_is_long.body ⟨d1_is_long.N, defScope s_d1_is_long, gs, (fun f => (tab f).map (·.name)), bs, true, true, xs, xm⟩ (defBody s_d1_is_long) = true := by decide +kernel
theorem sc_d1_is_long : FnScope d1_is_long.N (d1_is_long.N.take d1_is_long.ps) (defScope s_d1_is_long) := ⟨rfl, rfl, rfl, by decide +kernel, rfl, by decide +kernel, by decide +kernel⟩
theorem m_d2_month_length : mTs d2_month_length.body ⟨d2_month_length.N, defScope s_d2_month_length, gs, (fun f => (tab f).map (·.name)), bs, true, true, xs, xm⟩ (defBody s_d2_month_length) = true := by decide +kernel
theorem sc_d2_month_length : FnScope d2_month_length.N (d2_month_length.N.take d2_month_length.ps) (defScope s_d2_month_length) := ⟨rfl, rfl, rfl, by decide +kernel, rfl, by decide +kernel, by decide +kernel⟩
theorem m_d18_months_on : mTs d18_months_on.body ⟨d18_months_on.N, defScope s_d18_months_on, gs, (fun f => (tab f).map (·.name)), bs, true, true, xs, xm⟩ (defBody s_d18_months_on) = true := by decide +kernel
theorem sc_d18_months_on : FnScope d18_months_on.N (d18_months_on.N.take d18_months_on.ps) (defScope s_d18_months_on) := ⟨rfl, rfl, rfl, by decide +kernel, rfl, by decide +kernel, by decide +kernel⟩
theorem m_d4_law_same : mTs v4_law_same.body ⟨v4_law_same.N, defScope s_d4_law_same, gs, (fun f => (tab f).map (·.name)), bs, true, true, xs, xm⟩ (defBody s_d4_law_same) = true := by decide +kernel
theorem sc_d4_law_same : FnScope v4_law_same.N (v4_law_same.N.take v4_law_same.ps) (defScope s_d4_law_same) := ⟨rfl, rfl, rfl, by decide +kernel, rfl, by decide +kernel, by decide +kernel⟩
theorem m_d5_law_draw : mTs d5_law_draw.body ⟨d5_law_draw.N, defScope s_d5_law_draw, gs, (fun f => (tab f).map (·.name)), bs, true, true, xs, xm⟩ (defBody s_d5_law_draw) = true := by decide +kernel
theorem sc_d5_law_draw : FnScope d5_law_draw.N (d5_law_draw.N.take d5_law_draw.ps) (defScope s_d5_law_draw) := ⟨rfl, rfl, rfl, by decide +kernel, rfl, by decide +kernel, by decide +kernel⟩
theorem m_d7_law_length : mTs d7_law_length.body ⟨d7_law_length.N, defScope s_d7_law_length, gs, (fun f => (tab f).map (·.name)), bs, true, true, xs, xm⟩ (defBody s_d7_law_length) = true := by decide +kernel
theorem sc_d7_law_length : FnScope d7_law_length.N (d7_law_length.N.take d7_law_length.ps) (defScope s_d7_law_length) := ⟨rfl, rfl, rfl, by decide +kernel, rfl, by decide +kernel, by decide +kernel⟩
theorem m_d16_law_date : mTs d16_law_date.body ⟨d16_law_date.N, defScope s_d16_law_date, gs, (fun f => (tab f).map (·.name)), bs, true, true, xs, xm⟩ (defBody s_d16_law_date) = true := by decide +kernel
theorem sc_d16_law_date : FnScope d16_law_date.N (d16_law_date.N.take d16_law_date.ps) (defScope s_d16_law_date) := ⟨rfl, rfl, rfl, by decide +kernel, rfl, by decide +kernel, by decide +kernel⟩
theorem m_d19_law_told : mTs d19_law_told.body ⟨d19_law_told.N, defScope s_d19_law_told, gs, (fun f => (tab f).map (·.name)), bs, true, true, xs, xm⟩ (defBody s_d19_law_told) = true := by decide +kernel
theorem sc_d19_law_told : FnScope d19_law_told.N (d19_law_told.N.take d19_law_told.ps) (defScope s_d19_law_told) := ⟨rfl, rfl, rfl, by decide +kernel, rfl, by decide +kernel, by decide +kernel⟩
theorem m_d20_law_on : mTs d20_law_on.body ⟨d20_law_on.N, defScope s_d20_law_on, gs, (fun f => (tab f).map (·.name)), bs, true, true, xs, xm⟩ (defBody s_d20_law_on) = true := by decide +kernel
theorem sc_d20_law_on : FnScope d20_law_on.N (d20_law_on.N.take d20_law_on.ps) (defScope s_d20_law_on) := ⟨rfl, rfl, rfl, by decide +kernel, rfl, by decide +kernel, by decide +kernel⟩
theorem m_d21_law : mTs d21_law.body ⟨d21_law.N, defScope s_d21_law, gs, (fun f => (tab f).map (·.name)), bs, true, true, xs, xm⟩ (defBody s_d21_law) = true := by decide +kernel
theorem sc_d21_law : FnScope d21_law.N (d21_law.N.take d21_law.ps) (defScope s_d21_law) := ⟨rfl, rfl, rfl, by decide +kernel, rfl, by decide +kernel, by decide +kernel⟩
theorem mk {K : PySem.W.Frag} {h : Heap} {mg : Str → Option Value} {p_d0_is_whole p_d1_is_long p_d2_month_length p_d18_months_on p_d4_law_same p_d5_law_draw p_d7_law_length p_d16_law_date p_d19_law_told p_d20_law_on p_d21_law q_NoDate : Addr} {od_d0_is_whole an_d0_is_whole od_d1_is_long an_d1_is_long od_d2_month_length an_d2_month_length od_d18_months_on an_d18_months_on od_d4_law_same an_d4_law_same od_d5_law_draw an_d5_law_draw od_d7_law_length an_d7_law_length od_d16_law_date an_d16_law_date od_d19_law_told an_d19_law_told od_d20_law_on an_d20_law_on od_d21_law an_d21_law : Option Addr} {sl_d0_is_whole sl_d1_is_long sl_d2_month_length sl_d18_months_on sl_d4_law_same sl_d5_law_draw sl_d7_law_length sl_d16_law_date sl_d19_law_told sl_d20_law_on sl_d21_law : Array (Option Value)} {oc_d0_is_whole kV_d0_is_whole dc_d0_is_whole pm_d0_is_whole cd_d0_is_whole ct_d0_is_whole oc_d1_is_long kV_d1_is_long dc_d1_is_long pm_d1_is_long cd_d1_is_long ct_d1_is_long oc_d2_month_length kV_d2_month_length dc_d2_month_length pm_d2_month_length cd_d2_month_length ct_d2_month_length oc_d18_months_on kV_d18_months_on dc_d18_months_on pm_d18_months_on cd_d18_months_on ct_d18_months_on oc_d4_law_same kV_d4_law_same dc_d4_law_same pm_d4_law_same cd_d4_law_same ct_d4_law_same oc_d5_law_draw kV_d5_law_draw dc_d5_law_draw pm_d5_law_draw cd_d5_law_draw ct_d5_law_draw oc_d7_law_length kV_d7_law_length dc_d7_law_length pm_d7_law_length cd_d7_law_length ct_d7_law_length oc_d16_law_date kV_d16_law_date dc_d16_law_date pm_d16_law_date cd_d16_law_date ct_d16_law_date oc_d19_law_told kV_d19_law_told dc_d19_law_told pm_d19_law_told cd_d19_law_told ct_d19_law_told oc_d20_law_on kV_d20_law_on dc_d20_law_on pm_d20_law_on cd_d20_law_on ct_d20_law_on oc_d21_law kV_d21_law dc_d21_law pm_d21_law cd_d21_law ct_d21_law : Value} {t_LAST_YEAR t_FIRST_YEAR : Tok} (X : K.In h) (G : h.Ns mainGlobals mg)
    (a_d0_is_whole : PySem.W.nsIn K mainGlobals "is_whole" = some (some (.ref p_d0_is_whole))) (l_d0_is_whole : K.lookup p_d0_is_whole = some ⟨oc_d0_is_whole, od_d0_is_whole, .func (PySem.W.fnOf "is_whole" "is_whole" (defArgs s_d0_is_whole) (defBody s_d0_is_whole) (defScope s_d0_is_whole) .none kV_d0_is_whole dc_d0_is_whole pm_d0_is_whole an_d0_is_whole cd_d0_is_whole ct_d0_is_whole), sl_d0_is_whole⟩) (c_d0_is_whole : PySem.W.codeIn K cd_d0_is_whole "is_whole" = true) (k_d0_is_whole : PySem.W.keepIn K (.ref p_d0_is_whole) = true)
    (a_d1_is_long : PySem.W.nsIn K mainGlobals "is_long" = some (some (.ref p_d1_is_long))) (l_d1_is_long : K.lookup p_d1_is_long = some ⟨oc_d1_is_long, od_d1_is_long, .func (PySem.W.fnOf "is_long" "is_long" (defArgs s_d1_is_long) (defBody s_d1_is_long) (defScope s_d1_is_long) .none kV_d1_is_long dc_d1_is_long pm_d1_is_long an_d1_is_long cd_d1_is_long ct_d1_is_long), sl_d1_is_long⟩) (c_d1_is_long : PySem.W.codeIn K cd_d1_is_long "is_long" = true) (k_d1_is_long : PySem.W.keepIn K (.ref p_d1_is_long) = true)
    (a_d2_month_length : PySem.W.nsIn K mainGlobals "month_length" = some (some (.ref p_d2_month_length))) (l_d2_month_length : K.lookup p_d2_month_length = some ⟨oc_d2_month_length, od_d2_month_length, .func (PySem.W.fnOf "month_length" "month_length" (defArgs s_d2_month_length) (defBody s_d2_month_length) (defScope s_d2_month_length) .none kV_d2_month_length dc_d2_month_length pm_d2_month_length an_d2_month_length cd_d2_month_length ct_d2_month_length), sl_d2_month_length⟩) (c_d2_month_length : PySem.W.codeIn K cd_d2_month_length "month_length" = true) (k_d2_month_length : PySem.W.keepIn K (.ref p_d2_month_length) = true)
    (a_d18_months_on : PySem.W.nsIn K mainGlobals "months_on" = some (some (.ref p_d18_months_on))) (l_d18_months_on : K.lookup p_d18_months_on = some ⟨oc_d18_months_on, od_d18_months_on, .func (PySem.W.fnOf "months_on" "months_on" (defArgs s_d18_months_on) (defBody s_d18_months_on) (defScope s_d18_months_on) .none kV_d18_months_on dc_d18_months_on pm_d18_months_on an_d18_months_on cd_d18_months_on ct_d18_months_on), sl_d18_months_on⟩) (c_d18_months_on : PySem.W.codeIn K cd_d18_months_on "months_on" = true) (k_d18_months_on : PySem.W.keepIn K (.ref p_d18_months_on) = true)
    (a_d4_law_same : PySem.W.nsIn K mainGlobals "_law_same" = some (some (.ref p_d4_law_same))) (l_d4_law_same : K.lookup p_d4_law_same = some ⟨oc_d4_law_same, od_d4_law_same, .func (PySem.W.fnOf "_law_same" "_law_same" (defArgs s_d4_law_same) (defBody s_d4_law_same) (defScope s_d4_law_same) .none kV_d4_law_same dc_d4_law_same pm_d4_law_same an_d4_law_same cd_d4_law_same ct_d4_law_same), sl_d4_law_same⟩) (c_d4_law_same : PySem.W.codeIn K cd_d4_law_same "_law_same" = true) (k_d4_law_same : PySem.W.keepIn K (.ref p_d4_law_same) = true)
    (a_d5_law_draw : PySem.W.nsIn K mainGlobals "_law_draw" = some (some (.ref p_d5_law_draw))) (l_d5_law_draw : K.lookup p_d5_law_draw = some ⟨oc_d5_law_draw, od_d5_law_draw, .func (PySem.W.fnOf "_law_draw" "_law_draw" (defArgs s_d5_law_draw) (defBody s_d5_law_draw) (defScope s_d5_law_draw) .none kV_d5_law_draw dc_d5_law_draw pm_d5_law_draw an_d5_law_draw cd_d5_law_draw ct_d5_law_draw), sl_d5_law_draw⟩) (c_d5_law_draw : PySem.W.codeIn K cd_d5_law_draw "_law_draw" = true) (k_d5_law_draw : PySem.W.keepIn K (.ref p_d5_law_draw) = true)
    (a_d7_law_length : PySem.W.nsIn K mainGlobals "_law_length" = some (some (.ref p_d7_law_length))) (l_d7_law_length : K.lookup p_d7_law_length = some ⟨oc_d7_law_length, od_d7_law_length, .func (PySem.W.fnOf "_law_length" "_law_length" (defArgs s_d7_law_length) (defBody s_d7_law_length) (defScope s_d7_law_length) .none kV_d7_law_length dc_d7_law_length pm_d7_law_length an_d7_law_length cd_d7_law_length ct_d7_law_length), sl_d7_law_length⟩) (c_d7_law_length : PySem.W.codeIn K cd_d7_law_length "_law_length" = true) (k_d7_law_length : PySem.W.keepIn K (.ref p_d7_law_length) = true)
    (a_d16_law_date : PySem.W.nsIn K mainGlobals "_law_date" = some (some (.ref p_d16_law_date))) (l_d16_law_date : K.lookup p_d16_law_date = some ⟨oc_d16_law_date, od_d16_law_date, .func (PySem.W.fnOf "_law_date" "_law_date" (defArgs s_d16_law_date) (defBody s_d16_law_date) (defScope s_d16_law_date) .none kV_d16_law_date dc_d16_law_date pm_d16_law_date an_d16_law_date cd_d16_law_date ct_d16_law_date), sl_d16_law_date⟩) (c_d16_law_date : PySem.W.codeIn K cd_d16_law_date "_law_date" = true) (k_d16_law_date : PySem.W.keepIn K (.ref p_d16_law_date) = true)
    (a_d19_law_told : PySem.W.nsIn K mainGlobals "_law_told" = some (some (.ref p_d19_law_told))) (l_d19_law_told : K.lookup p_d19_law_told = some ⟨oc_d19_law_told, od_d19_law_told, .func (PySem.W.fnOf "_law_told" "_law_told" (defArgs s_d19_law_told) (defBody s_d19_law_told) (defScope s_d19_law_told) .none kV_d19_law_told dc_d19_law_told pm_d19_law_told an_d19_law_told cd_d19_law_told ct_d19_law_told), sl_d19_law_told⟩) (c_d19_law_told : PySem.W.codeIn K cd_d19_law_told "_law_told" = true) (k_d19_law_told : PySem.W.keepIn K (.ref p_d19_law_told) = true)
    (a_d20_law_on : PySem.W.nsIn K mainGlobals "_law_on" = some (some (.ref p_d20_law_on))) (l_d20_law_on : K.lookup p_d20_law_on = some ⟨oc_d20_law_on, od_d20_law_on, .func (PySem.W.fnOf "_law_on" "_law_on" (defArgs s_d20_law_on) (defBody s_d20_law_on) (defScope s_d20_law_on) .none kV_d20_law_on dc_d20_law_on pm_d20_law_on an_d20_law_on cd_d20_law_on ct_d20_law_on), sl_d20_law_on⟩) (c_d20_law_on : PySem.W.codeIn K cd_d20_law_on "_law_on" = true) (k_d20_law_on : PySem.W.keepIn K (.ref p_d20_law_on) = true)
    (a_d21_law : PySem.W.nsIn K mainGlobals "law" = some (some (.ref p_d21_law))) (l_d21_law : K.lookup p_d21_law = some ⟨oc_d21_law, od_d21_law, .func (PySem.W.fnOf "law" "law" (defArgs s_d21_law) (defBody s_d21_law) (defScope s_d21_law) .none kV_d21_law dc_d21_law pm_d21_law an_d21_law cd_d21_law ct_d21_law), sl_d21_law⟩) (c_d21_law : PySem.W.codeIn K cd_d21_law "law" = true) (k_d21_law : PySem.W.keepIn K (.ref p_d21_law) = true)
    (g_LAST_YEAR : PySem.W.nsIn K mainGlobals "LAST_YEAR" = some (some (.int 2099 t_LAST_YEAR)))
    (g_FIRST_YEAR : PySem.W.nsIn K mainGlobals "FIRST_YEAR" = some (some (.int 2000 t_FIRST_YEAR)))
    (z_range : PySem.W.nsIn K mainGlobals "range" = some none)
    (z_len : PySem.W.nsIn K mainGlobals "len" = some none)
    (z_isinstance : PySem.W.nsIn K mainGlobals "isinstance" = some none)
    (z_bool : PySem.W.nsIn K mainGlobals "bool" = some none)
    (z_int : PySem.W.nsIn K mainGlobals "int" = some none)
    (z_str : PySem.W.nsIn K mainGlobals "str" = some none)
    (z_tuple : PySem.W.nsIn K mainGlobals "tuple" = some none)
    (z_all : PySem.W.nsIn K mainGlobals "all" = some none)
    (z_zip : PySem.W.nsIn K mainGlobals "zip" = some none)
    (z_min : PySem.W.nsIn K mainGlobals "min" = some none)
    (z_divmod : PySem.W.nsIn K mainGlobals "divmod" = some none)
    (z_abs : PySem.W.nsIn K mainGlobals "abs" = some none)
    (x_NoDate : PySem.W.nsIn K mainGlobals "NoDate" = some (some (.ref q_NoDate))) (e_NoDate : PySem.W.excIn K q_NoDate Ev.bmV Ev.idV = true)
    (m_NoDate_NoDate : PySem.W.exmOne K (.ref q_NoDate) (.ref q_NoDate) = some true) :
    (∀ x c, gs.lookup x = some c → ∃ v u, mg x = some u ∧ RelV v u ∧ ∀ ρ H, DR K ρ H v c) ∧ (∀ x ∈ bs, mg x = none) ∧ Ev.ClsAt K mg xs xm ∧ (∀ f fn, tab f = some fn → FnAt K mg gs (fun f => (tab f).map (·.name)) bs xs xm fn) ∧ mg "law" = some (.ref p_d21_law) ∧ ∃ fd, Fun K "law" "law" s_d21_law p_d21_law fd ∧ ∀ (s : Shared) (u : Value), BindsTo s fd ⟨[u], []⟩ [("_law_script", u)] := by
  refine ⟨fun x c e => ?_, fun x hx => ?_, ⟨fun x hx => ?_, fun d c hx => ?_⟩, fun f fn hf => ?_, PySem.W.mg_of X G a_d21_law, _, fun_mk (st := s_d21_law) l_d21_law c_d21_law k_d21_law, fun s u => .of_eq rfl⟩
  · unfold gs at e
    rw [List.lookup_cons] at e
    split at e
    · rename_i hx
      have hx := beq_iff_eq.mp hx
      subst hx
      cases e
      exact ⟨.int 2099, _, PySem.W.mg_of X G g_LAST_YEAR, ⟨_, rfl⟩, fun _ _ => .int _⟩
    rw [List.lookup_cons] at e
    split at e
    · rename_i hx
      have hx := beq_iff_eq.mp hx
      subst hx
      cases e
      exact ⟨.int 2000, _, PySem.W.mg_of X G g_FIRST_YEAR, ⟨_, rfl⟩, fun _ _ => .int _⟩
    all_goals cases e
  · unfold bs at hx
    simp only [List.mem_cons, List.not_mem_nil, or_false] at hx
    rcases hx with rfl | rfl | rfl | rfl | rfl | rfl | rfl | rfl | rfl | rfl | rfl | rfl
    all_goals first | exact PySem.W.mg_none_of X G z_range | exact PySem.W.mg_none_of X G z_len | exact PySem.W.mg_none_of X G z_isinstance | exact PySem.W.mg_none_of X G z_bool | exact PySem.W.mg_none_of X G z_int | exact PySem.W.mg_none_of X G z_str | exact PySem.W.mg_none_of X G z_tuple | exact PySem.W.mg_none_of X G z_all | exact PySem.W.mg_none_of X G z_zip | exact PySem.W.mg_none_of X G z_min | exact PySem.W.mg_none_of X G z_divmod | exact PySem.W.mg_none_of X G z_abs
  · unfold xs at hx
    obtain ⟨y, hy, e⟩ := List.any_eq_true.mp hx
    have e := of_decide_eq_true e
    subst e
    simp only [List.mem_cons, List.not_mem_nil, or_false] at hy
    rcases hy with rfl
    · exact ⟨q_NoDate, ⟨x_NoDate, e_NoDate⟩, PySem.W.mg_of X G x_NoDate⟩
  · unfold xm at hx
    obtain ⟨y, hy, e⟩ := List.any_eq_true.mp hx
    simp only [List.mem_cons, List.not_mem_nil, or_false] at hy
    rcases hy with rfl
    · rw [Bool.and_eq_true] at e
      have e1 := of_decide_eq_true e.1
      have e2 := of_decide_eq_true e.2
      subst e1 e2
      refine ⟨q_NoDate, PySem.W.mg_of X G x_NoDate, fun D' hD' => ?_⟩
      have z := hD'.ns.symm.trans x_NoDate
      cases z
      exact m_NoDate_NoDate
  · unfold tab tl at hf
    rw [List.lookup_cons] at hf
    split at hf
    · cases hf
      exact ⟨s_d0_is_whole, p_d0_is_whole, _, fun_mk (st := s_d0_is_whole) l_d0_is_whole c_d0_is_whole k_d0_is_whole, PySem.W.mg_of X G a_d0_is_whole, sc_d0_is_whole, (fun_mk (st := s_d0_is_whole) l_d0_is_whole c_d0_is_whole k_d0_is_whole).binds (ps := d0_is_whole.N.take d0_is_whole.ps) (fun _ _ _ _ _ _ us hl => match us, hl with | [_, _, _], _ => rfl), m_d0_is_whole, rfl⟩
    rw [List.lookup_cons] at hf
    split at hf
    · cases hf
      exact ⟨s_d1_is_long, p_d1_is_long, _, fun_mk (st := s_d1_is_long) l_d1_is_long c_d1_is_long k_d1_is_long, PySem.W.mg_of X G a_d1_is_long, sc_d1_is_long, (fun_mk (st := s_d1_is_long) l_d1_is_long c_d1_is_long k_d1_is_long).binds (ps := d1_is_long.N.take d1_is_long.ps) (fun _ _ _ _ _ _ us hl => match us, hl with | [_], _ => rfl), m_d1_is_long, rfl⟩
    rw [List.lookup_cons] at hf
    split at hf
    · cases hf
      exact ⟨s_d2_month_length, p_d2_month_length, _, fun_mk (st := s_d2_month_length) l_d2_month_length c_d2_month_length k_d2_month_length, PySem.W.mg_of X G a_d2_month_length, sc_d2_month_length, (fun_mk (st := s_d2_month_length) l_d2_month_length c_d2_month_length k_d2_month_length).binds (ps := d2_month_length.N.take d2_month_length.ps) (fun _ _ _ _ _ _ us hl => match us, hl with | [_, _], _ => rfl), m_d2_month_length, rfl⟩
    rw [List.lookup_cons] at hf
    split at hf
    · cases hf
      exact ⟨s_d18_months_on, p_d18_months_on, _, fun_mk (st := s_d18_months_on) l_d18_months_on c_d18_months_on k_d18_months_on, PySem.W.mg_of X G a_d18_months_on, sc_d18_months_on, (fun_mk (st := s_d18_months_on) l_d18_months_on c_d18_months_on k_d18_months_on).binds (ps := d18_months_on.N.take d18_months_on.ps) (fun _ _ _ _ _ _ us hl => match us, hl with | [_, _], _ => rfl), m_d18_months_on, rfl⟩
    rw [List.lookup_cons] at hf
    split at hf
    · cases hf
      exact ⟨s_d4_law_same, p_d4_law_same, _, fun_mk (st := s_d4_law_same) l_d4_law_same c_d4_law_same k_d4_law_same, PySem.W.mg_of X G a_d4_law_same, sc_d4_law_same, (fun_mk (st := s_d4_law_same) l_d4_law_same c_d4_law_same k_d4_law_same).binds (ps := v4_law_same.N.take v4_law_same.ps) (fun _ _ _ _ _ _ us hl => match us, hl with | [_, _], _ => rfl), m_d4_law_same, rfl⟩
    rw [List.lookup_cons] at hf
    split at hf
    · cases hf
      exact ⟨s_d5_law_draw, p_d5_law_draw, _, fun_mk (st := s_d5_law_draw) l_d5_law_draw c_d5_law_draw k_d5_law_draw, PySem.W.mg_of X G a_d5_law_draw, sc_d5_law_draw, (fun_mk (st := s_d5_law_draw) l_d5_law_draw c_d5_law_draw k_d5_law_draw).binds (ps := d5_law_draw.N.take d5_law_draw.ps) (fun _ _ _ _ _ _ us hl => match us, hl with | [_, _, _], _ => rfl), m_d5_law_draw, rfl⟩
    rw [List.lookup_cons] at hf
    split at hf
    · cases hf
      exact ⟨s_d7_law_length, p_d7_law_length, _, fun_mk (st := s_d7_law_length) l_d7_law_length c_d7_law_length k_d7_law_length, PySem.W.mg_of X G a_d7_law_length, sc_d7_law_length, (fun_mk (st := s_d7_law_length) l_d7_law_length c_d7_law_length k_d7_law_length).binds (ps := d7_law_length.N.take d7_law_length.ps) (fun _ _ _ _ _ _ us hl => match us, hl with | [_, _], _ => rfl), m_d7_law_length, rfl⟩
    rw [List.lookup_cons] at hf
    split at hf
    · cases hf
      exact ⟨s_d16_law_date, p_d16_law_date, _, fun_mk (st := s_d16_law_date) l_d16_law_date c_d16_law_date k_d16_law_date, PySem.W.mg_of X G a_d16_law_date, sc_d16_law_date, (fun_mk (st := s_d16_law_date) l_d16_law_date c_d16_law_date k_d16_law_date).binds (ps := d16_law_date.N.take d16_law_date.ps) (fun _ _ _ _ _ _ us hl => match us, hl with | [_, _], _ => rfl), m_d16_law_date, rfl⟩
    rw [List.lookup_cons] at hf
    split at hf
    · cases hf
      exact ⟨s_d19_law_told, p_d19_law_told, _, fun_mk (st := s_d19_law_told) l_d19_law_told c_d19_law_told k_d19_law_told, PySem.W.mg_of X G a_d19_law_told, sc_d19_law_told, (fun_mk (st := s_d19_law_told) l_d19_law_told c_d19_law_told k_d19_law_told).binds (ps := d19_law_told.N.take d19_law_told.ps) (fun _ _ _ _ _ _ us hl => match us, hl with | [_, _], _ => rfl), m_d19_law_told, rfl⟩
    rw [List.lookup_cons] at hf
    split at hf
    · cases hf
      exact ⟨s_d20_law_on, p_d20_law_on, _, fun_mk (st := s_d20_law_on) l_d20_law_on c_d20_law_on k_d20_law_on, PySem.W.mg_of X G a_d20_law_on, sc_d20_law_on, (fun_mk (st := s_d20_law_on) l_d20_law_on c_d20_law_on k_d20_law_on).binds (ps := d20_law_on.N.take d20_law_on.ps) (fun _ _ _ _ _ _ us hl => match us, hl with | [_, _], _ => rfl), m_d20_law_on, rfl⟩
    rw [List.lookup_cons] at hf
    split at hf
    · cases hf
      exact ⟨s_d21_law, p_d21_law, _, fun_mk (st := s_d21_law) l_d21_law c_d21_law k_d21_law, PySem.W.mg_of X G a_d21_law, sc_d21_law, (fun_mk (st := s_d21_law) l_d21_law c_d21_law k_d21_law).binds (ps := d21_law.N.take d21_law.ps) (fun _ _ _ _ _ _ us hl => match us, hl with | [_], _ => rfl), m_d21_law, rfl⟩
    cases hf
end K03

set_option Elab.async false
set_option linter.all false
set_option maxRecDepth 100000
set_option maxHeartbeats 4000000
namespace K03
open PySem L2 Ev Fns
def fu : Nat := 100
def dep : Nat := 20
theorem t0 : Has tab 0 d0_is_whole := ⟨_, rfl, rfl, rfl, rfl⟩
theorem t1 : Has tab 1 d1_is_long := ⟨_, rfl, rfl, rfl, rfl⟩
theorem t2 : Has tab 2 d2_month_length := ⟨_, rfl, rfl, rfl, rfl⟩
theorem t4 : Has tab 4 d4_law_same := ⟨_, rfl, rfl, rfl, rfl⟩
theorem t5 : Has tab 5 d5_law_draw := ⟨_, rfl, rfl, rfl, rfl⟩
theorem t7 : Has tab 7 d7_law_length := ⟨_, rfl, rfl, rfl, rfl⟩
theorem t16 : Has tab 16 d16_law_date := ⟨_, rfl, rfl, rfl, rfl⟩
theorem t18 : Has tab 18 d18_months_on := ⟨_, rfl, rfl, rfl, rfl⟩
theorem t19 : Has tab 19 d19_law_told := ⟨_, rfl, rfl, rfl, rfl⟩
theorem t20 : Has tab 20 d20_law_on := ⟨_, rfl, rfl, rfl, rfl⟩
theorem t21 : Has tab law_ix d21_law := ⟨_, rfl, rfl, rfl, rfl⟩
section
variable {sc : List Int} {n : Nat} {S : Sto}
def inner : Ts → Ts
  | .cons _ (.cons (.for _ _ (.cons _ (.cons (.for _ _ b) _))) _) => b
  | _ => .nil
def outer : Ts → Ts
  | .cons _ (.cons (.for _ _ b) _) => b
  | _ => .nil
def step : Ts := inner d21_law.body
def turn : Ts := outer d21_law.body
theorem plain_on (y m d k : Int) : plainV 2 (onV y m d k) = true := by
  unfold onV
  split
  · exact plain_tup (Nat.le_trans (show 3 ≤ 3 by decide) (by decide)) (by simp)
  · exact shaped_nodate
theorem plain_dt (y m d : Int) : plainV 2 (.tuple [.int y, .int m, .int d]) = true := plain_tup (Nat.le_trans (show 3 ≤ 3 by decide) (by decide)) (by simp)
theorem step_ok (g2 g5 : Option U) {y m d k : Int} (hD : Dt y m d) (hy : y ≤ 2099) (hk : -2000 ≤ k) (hk2 : k ≤ 2000) :
    exs (run sc fu tab (n + 4)) sc fu step [some .s, some (.c 0), g2, some (.d (.tuple [.int y, .int m, .int d])), some (.d (.int k)), g5] S
      = .ok (.nx [some .s, some (.c 0), g2, some (.d (.tuple [.int y, .int m, .int d])), some (.d (.int k)), some (.d (onV y m d k))]) S := by
  have l := law_on_ok (sc := sc) (fu := fu) (n := n + 2) (S := S) t7 t20 (y := y) (m := m) (d := d) (k := k) hD.2.1 hD.2.2.1 (by omega) (by omega)
  have tl := law_told3_ok (sc := sc) (fu := fu) (n := n) (S := S) t0 t1 t2 t18 t19 y m d k
  have s1 := law_same_refl (sc := sc) (fu := fu) (n := n + 2) (S := S) t4 2 (onV y m d k) (plain_on y m d k)
  have s2 := law_same_refl (sc := sc) (fu := fu) (n := n + 2) (S := S) t4 2 (.tuple [.int y, .int m, .int d]) (plain_dt y m d)
  simp only [step, inner, d21_law]
  cases hi : inY (onT y m k) with
  | true =>
    have e : onV y m d k = .tuple [.int (onT y m k / 12), .int (onT y m k % 12 + 1), .int (minI d (mlen (onT y m k / 12) (onT y m k % 12 + 1)))] := by unfold onV; rw [if_pos hi]; rfl
    rw [e] at l tl s1
    by_cases hd : d < 29
    · have mo := months_on_ok (sc := sc) (fu := fu) (n := n + 1) (S := S) t0 t1 t2 t18 (onT y m k / 12) (onT y m k % 12 + 1) (minI d (mlen (onT y m k / 12) (onT y m k % 12 + 1))) (0 - k)
      have bk := on_back hD hy hd hi
      unfold onV at bk
      cases hi2 : inY (onT (onT y m k / 12) (onT y m k % 12 + 1) (0 - k)) with
      | false => rw [hi2] at bk; simp at bk
      | true =>
        rw [hi2, if_pos rfl] at bk mo
        rw [bk] at mo
        simp [-Int.zero_sub, l, tl, s1, s2, e, shaped_dt, shaped_nodate, eqv_ts, hd, mo]
    · simp [l, tl, s1, e, shaped_dt, shaped_nodate, eqv_ts, hd]
  | false =>
    have e : onV y m d k = .str "NoDate" := by unfold onV; rw [hi]; rfl
    rw [e] at l tl s1
    simp [l, tl, s1, e, shaped_nodate, eqv_str]
theorem steps (all : List PyData) (g2 : Option U) {y m d : Int} (hD : Dt y m d) (hy : y ≤ 2099) : ∀ (items : List PyData) (g4 g5 : Option U), (∀ x ∈ items, ∃ k : Int, x = .int k ∧ -2000 ≤ k ∧ k ≤ 2000) → ∃ g4' g5',
    forL (exs (run sc fu tab (n + 4)) sc fu step) (.nm 4) none all items [some .s, some (.c 0), g2, some (.d (.tuple [.int y, .int m, .int d])), g4, g5] S = .ok (.nx [some .s, some (.c 0), g2, some (.d (.tuple [.int y, .int m, .int d])), g4', g5']) S
  | [], g4, g5, _ => ⟨_, _, rfl⟩
  | x :: r, g4, g5, h => by
    obtain ⟨k, rfl, h1, h2⟩ := h x List.mem_cons_self
    obtain ⟨g4', g5', e⟩ := steps all g2 hD hy r (some (.d (.int k))) (some (.d (onV y m d k))) (fun x hx => h x (List.mem_cons_of_mem _ hx))
    refine ⟨g4', g5', ?_⟩
    rw [forL_cons (σ2 := [some .s, some (.c 0), g2, some (.d (.tuple [.int y, .int m, .int d])), some (.d (.int k)), g5]) _ _ _ _ _ rfl, step_ok g2 g5 hD hy h1 h2, forT_nx, e]
def Fr (σ : En) : Prop := ∃ g2 g3 g4 g5 : Option U, σ = [some .s, some (.c 0), g2, g3, g4, g5]
theorem turn_ok {σ : En} (hσ : Fr σ) (zs : List PyData) (hz : zs.length + 5 < 1000) : ∃ σ' zs', exs (run sc fu tab (n + 4)) sc fu turn σ [zs] = .ok (.nx σ') [zs'] ∧ Fr σ' ∧ zs'.length = zs.length + 5 := by
  obtain ⟨g2, g3, g4, g5, rfl⟩ := hσ
  obtain ⟨y, m, d, z1, hD, hy, l1, e1⟩ := law_date_ok (sc := sc) (fu := fu) (tab := tab) (n := n + 2) t5 t7 t16 (zs := zs) (by omega)
  obtain ⟨a, z2, a0, a1, l2, e2⟩ := draw1 (sc := sc) (fu := fu) (tab := tab) (n := n + 3) (zs := z1) t5 (by omega) (many := 2600) (by decide)
  obtain ⟨b, z3, b0, b1, l3, e3⟩ := draw1 (sc := sc) (fu := fu) (tab := tab) (n := n + 3) (zs := z2) t5 (by omega) (many := 40) (by decide)
  obtain ⟨g4', g5', e⟩ := steps (sc := sc) (n := n) (S := [z3]) [.int 0, .int 1, .int (-1), .int 12, .int (a - 1300), .int (b - 20)] g2 hD hy [.int 0, .int 1, .int (-1), .int 12, .int (a - 1300), .int (b - 20)] g4 g5 (by
    intro x hx
    simp only [List.mem_cons, List.not_mem_nil, or_false] at hx
    rcases hx with rfl | rfl | rfl | rfl | rfl | rfl
    · exact ⟨_, rfl, by decide, by decide⟩
    · exact ⟨_, rfl, by decide, by decide⟩
    · exact ⟨_, rfl, by decide, by decide⟩
    · exact ⟨_, rfl, by decide, by decide⟩
    · exact ⟨_, rfl, by omega, by omega⟩
    · exact ⟨_, rfl, by omega, by omega⟩)
  refine ⟨_, z3, ?_, ⟨g2, some (.d (.tuple [.int y, .int m, .int d])), g4', g5', rfl⟩, by omega⟩
  simp only [step, inner, d21_law] at e
  simp only [turn, outer, d21_law]
  simp [e1, e2, e3]
  rw [e]
  simp
theorem loop_ok : ∀ (items all : List PyData) (σ : En) (zs : List PyData), Fr σ → zs.length + 5 * items.length < 1000 →
    ∃ σ' zs', forL (exs (run sc fu tab (n + 4)) sc fu turn) (.nm 2) none all items σ [zs] = .ok (.nx σ') [zs'] ∧ Fr σ'
  | [], all, σ, zs, hσ, _ => ⟨σ, zs, rfl, hσ⟩
  | x :: r, all, σ, zs, hσ, h => by
    rw [List.length_cons] at h
    obtain ⟨g2, g3, g4, g5, rfl⟩ := hσ
    obtain ⟨σ', zs', e, hσ', hl⟩ := turn_ok (sc := sc) (n := n) (σ := [some .s, some (.c 0), some (.d x), g3, g4, g5]) ⟨_, _, _, _, rfl⟩ zs (by omega)
    rw [forL_cons (σ2 := [some .s, some (.c 0), some (.d x), g3, g4, g5]) _ _ _ _ _ rfl, e, forT_nx]
    exact loop_ok r all σ' zs' hσ' (by omega)
theorem main : ∀ ns : List Int, ns.length ≤ 63 → ∃ S', run ns fu tab (dep + 1) law_ix [.s] [] = .ok (.d (.bool true)) S' := by
  intro ns _
  rw [run_eq t21 rfl]
  have hr : (rngP 0 10).length = 10 := rngP_len 10 0
  obtain ⟨σ', zs', e, g2, g3, g4, g5, rfl⟩ := loop_ok (sc := ns) (n := 16) (rngP 0 10) (rngP 0 10) [some .s, some (.c 0), none, none, none, none] [] ⟨_, _, _, _, rfl⟩ (by rw [hr]; decide)
  refine ⟨[], ?_⟩
  simp only [turn, outer, d21_law, Nat.reduceAdd] at e
  simp only [d21_law, entry, dep]
  have r10 : ∀ S, rngO 0 10 S = .ok (rngP 0 10, none) S := fun S => rngO_ok (by decide) (by decide) (by decide) (by decide)
  simp [r10]
  rw [e]
  simp
end
end K03

open K03 in
theorem K03.walk {l : PySem.W.OpenLaw} {q : PySem.Program} {loose : List PySem.Str} {XP : (PySem.Str → Option PySem.Value) → PySem.Heap → Prop} {YP : PySem.World → PySem.Heap → Prop} {d : PySem.DefRec} {K : PySem.Params → PySem.W.Frag} {fu n : Nat} (hn : l.most = some 63) (hdf : d.params.defaults = []) (hdn : d.name = PySem.Str.ofString "law") (hr : L2.Room (n + 1) PySem.callerA)
    (hY : ∀ (w : PySem.World) (h : PySem.Heap), YP w h → (K w.params).In h)
    (main : ∀ ns : List Int, ns.length ≤ 63 → ∃ S', Ev.run ns fu tab (n + 1) law_ix [.s] [] = .ok (.d (.bool true)) S')
    (T : ∀ (w : PySem.World) (mg : PySem.Str → Option PySem.Value) (h : PySem.Heap), (K w.params).In h → h.Ns PySem.mainGlobals mg → ∃ p,
      (∀ x c, gs.lookup x = some c → ∃ v u, mg x = some u ∧ L2.RelV v u ∧ ∀ ρ H, Ev.DR (K w.params) ρ H v c) ∧ (∀ x ∈ bs, mg x = none) ∧ Ev.ClsAt (K w.params) mg xs xm ∧ (∀ f fn, tab f = some fn → Ev.FnAt (K w.params) mg gs (fun f => (tab f).map (·.name)) bs xs xm fn) ∧ mg "law" = some (.ref p) ∧ ∃ fd, L2.Fun (K w.params) "law" "law" s_d21_law p fd ∧ ∀ (s : PySem.Shared) (u : PySem.Value), PySem.BindsTo s fd ⟨[u], []⟩ [("_law_script", u)]) :
    PySem.W.WalkO q loose XP YP l.row.toRowW d [] (fun f vs => PySem.call f vs) := by
  refine L2.walk_of (n := 63) (k := n + 1) (x := "_law_script") (CX := fun w => Ev.CXm (K w.params) l.prog w) (sp := fun w => Ev.spLaw fu tab (n + 1) law_ix (K w.params)) hn (by decide) hdf hr hY (fun w mg fa h KX G hmg => ?_) (fun w H a ns hl _ hS => Ev.law_sp main _ H a ns hl hS) (fun _ _ _ _ _ z => Ev.cx_none z)
  obtain ⟨p, h1, h2, hX, h3, h4, fd, h5, h6⟩ := T w mg h KX G
  rw [hdn] at hmg
  have e := hmg.symm.trans h4
  cases e
  exact ⟨fd, h6, fun base _ _ => Ev.law_ok h1 h2 hX h3 (f := law_ix) (fn := f_law) rfl rfl h5 sc_d21_law m_d21_law⟩
open PySem PySem.W PyProof.Rows
set_option maxRecDepth 100000 in
set_option maxHeartbeats 0 in
theorem PySem.Challenge.cw_dodays_k03_whole_months_on_holds : PySem.Challenge.rw_dodays_k03_whole_months_on.Holds := by
  w_on; o_law; k_head; (case hw => w_witness2)
  k_fill
  refine K03.walk (l := PySem.Challenge.rw_dodays_k03_whole_months_on) (fu := K03.fu) (n := K03.dep) rfl rfl rfl ⟨rfl, by decide, by decide⟩ (fun w h Y => PySem.W.kIn_of Y) K03.main ?T
  case T =>
    intro w mg h KX G
    refine' ⟨_, K03.mk KX G ?a_d0_is_whole ?l_d0_is_whole ?c_d0_is_whole ?k_d0_is_whole ?a_d1_is_long ?l_d1_is_long ?c_d1_is_long ?k_d1_is_long ?a_d2_month_length ?l_d2_month_length ?c_d2_month_length ?k_d2_month_length ?a_d18_months_on ?l_d18_months_on ?c_d18_months_on ?k_d18_months_on ?a_d4_law_same ?l_d4_law_same ?c_d4_law_same ?k_d4_law_same ?a_d5_law_draw ?l_d5_law_draw ?c_d5_law_draw ?k_d5_law_draw ?a_d7_law_length ?l_d7_law_length ?c_d7_law_length ?k_d7_law_length ?a_d16_law_date ?l_d16_law_date ?c_d16_law_date ?k_d16_law_date ?a_d19_law_told ?l_d19_law_told ?c_d19_law_told ?k_d19_law_told ?a_d20_law_on ?l_d20_law_on ?c_d20_law_on ?k_d20_law_on ?a_d21_law ?l_d21_law ?c_d21_law ?k_d21_law ?g_LAST_YEAR ?g_FIRST_YEAR ?z_range ?z_len ?z_isinstance ?z_bool ?z_int ?z_str ?z_tuple ?z_all ?z_zip ?z_min ?z_divmod ?z_abs ?x_NoDate ?e_NoDate ?m_NoDate_NoDate⟩
    (case a_d0_is_whole => k_is)
    (case l_d0_is_whole => k_is)
    (case c_d0_is_whole => k_is)
    (case k_d0_is_whole => k_is)
    (case a_d1_is_long => k_is)
    (case l_d1_is_long => k_is)
    (case c_d1_is_long => k_is)
    (case k_d1_is_long => k_is)
    (case a_d2_month_length => k_is)
    (case l_d2_month_length => k_is)
    (case c_d2_month_length => k_is)
    (case k_d2_month_length => k_is)
    (case a_d18_months_on => k_is)
    (case l_d18_months_on => k_is)
    (case c_d18_months_on => k_is)
    (case k_d18_months_on => k_is)
    (case a_d4_law_same => k_is)
    (case l_d4_law_same => k_is)
    (case c_d4_law_same => k_is)
    (case k_d4_law_same => k_is)
    (case a_d5_law_draw => k_is)
    (case l_d5_law_draw => k_is)
    (case c_d5_law_draw => k_is)
    (case k_d5_law_draw => k_is)
    (case a_d7_law_length => k_is)
    (case l_d7_law_length => k_is)
    (case c_d7_law_length => k_is)
    (case k_d7_law_length => k_is)
    (case a_d16_law_date => k_is)
    (case l_d16_law_date => k_is)
    (case c_d16_law_date => k_is)
    (case k_d16_law_date => k_is)
    (case a_d19_law_told => k_is)
    (case l_d19_law_told => k_is)
    (case c_d19_law_told => k_is)
    (case k_d19_law_told => k_is)
    (case a_d20_law_on => k_is)
    (case l_d20_law_on => k_is)
    (case c_d20_law_on => k_is)
    (case k_d20_law_on => k_is)
    (case a_d21_law => k_is)
    (case l_d21_law => k_is)
    (case c_d21_law => k_is)
    (case k_d21_law => k_is)
    (case g_LAST_YEAR => k_is)
    (case g_FIRST_YEAR => k_is)
    (case z_range => k_is)
    (case z_len => k_is)
    (case z_isinstance => k_is)
    (case z_bool => k_is)
    (case z_int => k_is)
    (case z_str => k_is)
    (case z_tuple => k_is)
    (case z_all => k_is)
    (case z_zip => k_is)
    (case z_min => k_is)
    (case z_divmod => k_is)
    (case z_abs => k_is)
    (case x_NoDate => k_is)
    (case e_NoDate => k_exc)
    (case m_NoDate_NoDate => kts_exm)
