import PyProof.Rows.All
import Wide.All
import OpenK.AllK
import Wide.FinOn
import PyProof.EqAt
import PyProof.EqKinds
import PyProof.TupleCall
import KE.BitLaws
import PySem.Challenge.RW_ticktrees_k24_whole_rows_and_picks
set_option Elab.async false
set_option linter.all false
set_option maxRecDepth 100000
/-! THE HAND LAYER, for ints, bools, texts, own classes, lists, tuples, dicts, comprehensions, walks over dicts, enumerate, zip, reversed, texts, calls, loops. Paste it whole ahead of your own text; what your proof does not reach may be deleted. -/
namespace L2
open PySem PySem.Spec PyProof.Rows

/-- a key: an int or a str -/
abbrev Key := Sum Int Str
def keyIs : Key → Value → Bool
  | .inl k, v => Value.isInt k v
  | .inr x, v => Value.isStrOf x v
def keyH (w : World) : Key → Int
  | .inl k => hashInt k
  | .inr x => hashStr w x
theorem keyIs_shape : ∀ {k : Key} {v : Value}, keyIs k v = true → (∃ i t, k = Sum.inl i ∧ v = Value.int i t) ∨ (∃ x t, k = Sum.inr x ∧ v = Value.str x t)
  | .inl i, v, h => by
    obtain ⟨t, e⟩ := Value.isInt_shape (k := i) (v := v) h
    exact .inl ⟨i, t, rfl, e⟩
  | .inr x, v, h => by
    obtain ⟨t, e⟩ := Value.isStrOf_shape (x := x) (v := v) h
    exact .inr ⟨x, t, rfl, e⟩
theorem keyIs_int (i : Int) (t : Tok) : keyIs (.inl i) (.int i t) = true := by simp [keyIs, Value.isInt]
theorem keyIs_str (x : Str) (t : Tok) : keyIs (.inr x) (.str x t) = true := by simp [keyIs, Value.isStrOf]
theorem key_ll (a b : Int) : decide ((Sum.inl a : Key) = Sum.inl b) = (a == b) := by
  by_cases e : a = b
  · subst e; simp
  · have h : ¬ (Sum.inl a : Key) = Sum.inl b := fun q => e (Sum.inl.inj q)
    rw [decide_eq_false h]
    exact (beq_eq_false_iff_ne.mpr e).symm
theorem key_rr (a b : Str) : decide ((Sum.inr a : Key) = Sum.inr b) = decide (a = b) := by
  by_cases e : a = b
  · subst e; simp
  · have h : ¬ (Sum.inr a : Key) = Sum.inr b := fun q => e (Sum.inr.inj q)
    rw [decide_eq_false h, decide_eq_false e]
theorem key_lr (a : Int) (b : Str) : decide ((Sum.inl a : Key) = Sum.inr b) = false := decide_eq_false (fun q => nomatch q)
theorem key_rl (a : Str) (b : Int) : decide ((Sum.inr a : Key) = Sum.inl b) = false := decide_eq_false (fun q => nomatch q)

def mixKind (prog : Program) (w : World) : PySem.KeyKind prog w Key where
  is := keyIs
  hash := keyH w
  inj := fun v a b ha hb => by
    rcases keyIs_shape ha with ⟨i, t, rfl, rfl⟩ | ⟨x, t, rfl, rfl⟩
    · rcases keyIs_shape hb with ⟨j, u, rfl, e⟩ | ⟨y, u, rfl, e⟩
      · injection e with e1 _; rw [e1]
      · exact nomatch e
    · rcases keyIs_shape hb with ⟨j, u, rfl, e⟩ | ⟨y, u, rfl, e⟩
      · exact nomatch e
      · injection e with e1 _; rw [e1]
  byValue := fun k v h => by
    rcases keyIs_shape h with ⟨i, t, rfl, rfl⟩ | ⟨x, t, rfl, rfl⟩ <;> rfl
  pyHash := fun hv h => by
    rcases keyIs_shape hv with ⟨i, t, rfl, rfl⟩ | ⟨x, t, rfl, rfl⟩
    · exact wpAny_pyHash_int h
    · exact wpAny_pyHash_str h
  eqBool := fun hu hv h => by
    rcases keyIs_shape hu with ⟨i, t, rfl, rfl⟩ | ⟨x, t, rfl, rfl⟩
    · rcases keyIs_shape hv with ⟨j, u, rfl, rfl⟩ | ⟨y, u, rfl, rfl⟩
      · rw [key_ll] at h; exact wpAny_eqBool_int h
      · rw [key_lr] at h; exact SeqAt.EqAt.int_str i t y u _ _ _ _ h
    · rcases keyIs_shape hv with ⟨j, u, rfl, rfl⟩ | ⟨y, u, rfl, rfl⟩
      · rw [key_rl] at h; exact SeqAt.EqAt.str_int x t j u _ _ _ _ h
      · rw [key_rr] at h; exact wpAny_eqBool_str h
  «strs» := fun k x t v h => by
    rcases keyIs_shape h with ⟨i, u, rfl, e⟩ | ⟨y, u, rfl, e⟩
    · exact nomatch e
    · injection e with e1 _
      subst e1
      cases v <;> rfl

theorem mixKind_is (prog : Program) (w : World) (k : Key) (v : Value) : (mixKind prog w).is k v = keyIs k v := rfl
theorem mixKind_int (prog : Program) (w : World) (i : Int) (t : Tok) : (mixKind prog w).is (.inl i) (.int i t) = true := keyIs_int i t
theorem mixKind_str (prog : Program) (w : World) (x : Str) (t : Tok) : (mixKind prog w).is (.inr x) (.str x t) = true := keyIs_str x t
end L2

namespace L2
open PySem PySem.Spec PyProof.Rows

/-- a value, without the heap -/
inductive V where
  | non | bl (b : Bool) | int (i : Int) | str (x : Str) | byt (b : Array UInt8) | flt (b : UInt64) | ref (a : Addr) | ty (n : String)
  deriving DecidableEq

def RelV : V → Value → Prop
  | .non, u => u = Value.none
  | .bl b, u => u = Value.bool b
  | .int i, u => ∃ t, u = Value.int i t
  | .str x, u => ∃ t, u = Value.str x t
  | .byt b, u => ∃ t, u = Value.bytes b t
  | .flt b, u => ∃ t, u = Value.float b t
  | .ref a, u => u = Value.ref a
  | .ty n, u => u = Value.type n

abbrev Vals : List V → List Value → Prop := Paired RelV
theorem Vals.length {xs : List V} {us : List Value} (r : Vals xs us) : xs.length = us.length := Paired.length r
theorem Vals.get : ∀ {xs : List V} {us : List Value} {i : Nat} {x : V}, Vals xs us → xs[i]? = some x → ∃ u, us[i]? = some u ∧ RelV x u
  | _, _, _, _, .nil, e => by simp at e
  | _, _, 0, _, .cons r _, e => by simp at e; subst e; exact ⟨_, rfl, r⟩
  | _, _, i + 1, x, .cons _ t, e => by
    obtain ⟨u, h1, h2⟩ := Vals.get (i := i) (x := x) t (by simpa using e)
    exact ⟨u, by simpa using h1, h2⟩
theorem Vals.set {x : V} {u : Value} (r : RelV x u) : ∀ {xs : List V} {us : List Value} (i : Nat), Vals xs us → Vals (xs.set i x) (us.set i u)
  | _, _, _, .nil => .nil
  | _, _, 0, .cons _ t => .cons r t
  | _, _, i + 1, .cons q t => .cons q (Vals.set r i t)
theorem Vals.append : ∀ {xs ys : List V} {us ws : List Value}, Vals xs us → Vals ys ws → Vals (xs ++ ys) (us ++ ws)
  | _, _, _, _, .nil, s => s
  | _, _, _, _, .cons r t, s => .cons r (Vals.append t s)
theorem Vals.take : ∀ {xs : List V} {us : List Value} (n : Nat), Vals xs us → Vals (xs.take n) (us.take n)
  | _, _, 0, _ => .nil
  | _, _, _ + 1, .nil => .nil
  | _, _, n + 1, .cons r t => .cons r (Vals.take n t)
theorem Vals.drop : ∀ {xs : List V} {us : List Value} (n : Nat), Vals xs us → Vals (xs.drop n) (us.drop n)
  | _, _, 0, r => r
  | _, _, _ + 1, .nil => .nil
  | _, _, n + 1, .cons _ t => Vals.drop n t
theorem Vals.none_of : ∀ {xs : List V} {us : List Value} {i : Nat}, Vals xs us → xs[i]? = none → us[i]? = none := fun {xs us i} r e => by
  have h1 := r.length
  have h2 : xs.length ≤ i := List.getElem?_eq_none_iff.mp e
  exact List.getElem?_eq_none_iff.mpr (by omega)

def RelO : Option V → Option Value → Prop
  | some v, some u => RelV v u
  | none, none => True
  | _, _ => False
def KV {κ : Type} : List (κ × V) → List (κ × Value) → Prop := Paired fun (p : κ × V) (q : κ × Value) => p.1 = q.1 ∧ RelV p.2 q.2

/-- a key of a dict (00_mix): an int or a text -/
def kV : Key → V
  | .inl i => .int i
  | .inr x => .str x

/-- what stands at a tracked address -/
inductive HO where
  /-- a list -/
  | lst (xs : List V)
  /-- a tuple (never changes) -/
  | tup (xs : List V)
  /-- a dict whose keys are ints and texts; one whose keys are tuples of ints and texts (the empty one is both) -/
  | dK (kvs : List (Key × V)) | dT (kvs : List (List Key × V))
  /-- a set of ints: its members, its size -/
  | set (S : Int → Bool) (n : Nat)
  /-- an instance of the class at C, its dict at dx, its attributes -/
  | ins (C dx : Addr) (fs : List (Str × V))
  /-- the dict of the instance at x -/
  | own (x : Addr)
  /-- the dict of an exception -/
  | xd (fs : List (Str × V))
  /-- a bound method, f of x -/
  | met (f x : Addr)
  /-- a range object lo, lo + 1, .. below hi -/
  | rng (lo hi : Int)
  /-- a thing that is known to the object (the script; a dict while a loop walks it): read, never written while it is so -/
  | frz (o : Obj) (u : HO)
  /-- a code object's table -/
  | tbl (ps : Array Value)
  /-- any other thing, by what is true of its one object (a def of one's own: SetO a S n := HO.ext fun h => ..) -/
  | ext (φ : Heap → Prop)

abbrev Hp := Addr → Option HO
def upd (H : Hp) (a : Addr) (o : HO) : Hp := fun b => if b = a then some o else H b
theorem upd_same {H : Hp} {a : Addr} {o : HO} : upd H a o a = some o := by unfold upd; rw [if_pos rfl]
theorem upd_ne {H : Hp} {a b : Addr} {o : HO} (h : b ≠ a) : upd H a o b = H b := by unfold upd; rw [if_neg h]
theorem upd_upd {H : Hp} {a : Addr} {o u : HO} : upd (upd H a o) a u = upd H a u := by
  funext b; unfold upd; split <;> rfl
/-- two objects of different content stand apart -/
theorem ne_of {H : Hp} {a b : Addr} {o u : HO} (h : H a = some o) (h' : H b = some u) (d : o ≠ u) : a ≠ b := by
  intro e; subst e; rw [h] at h'; exact d (Option.some.inj h')
theorem ne_of_none {H : Hp} {a b : Addr} {o : HO} (h : H a = some o) (h' : H b = none) : a ≠ b := by
  intro e; subst e; rw [h] at h'; cases h'

section
variable (P : Program) (w : World)
def ObjOk (H : Hp) (h : Heap) (a : Addr) : HO → Prop
  | .lst xs => xs.length ≤ sizeLine ∧ ∃ (its : List Value) (n : Nat), Vals xs its ∧ h.get? a = some { cls := .type "list", data := .seq its.toArray n }
  | .tup xs => xs.length ≤ sizeLine ∧ ∃ its : List Value, Vals xs its ∧ IsTup h a its.toArray
  | .dK kvs => kvs.length ≤ sizeLine ∧ (a == sysModules) = false ∧ ∃ vs, KV kvs vs ∧ h.DictOf (mixKind P w) a vs
  | .dT kvs => kvs.length ≤ sizeLine ∧ (a == sysModules) = false ∧ ∃ xs : List (List Key × Addr × Value),
      Paired (fun (p : List Key × V) (q : List Key × Addr × Value) => p.1 = q.1 ∧ H q.2.1 = some (.tup (p.1.map kV)) ∧ RelV p.2 q.2.2) kvs xs ∧
      ∃ o es ep, h.get? a = some o ∧ o.ExactDict ∧ o.data = .dict es ep ∧ es.toList = xs.map (entryOfKey (tupleKind (mixKind P w))) ∧ (xs.map (·.1)).Nodup
  | .set S n => h.SetOf (intKind P w) a S n
  | .ins C dx fs => H dx = some (.own a) ∧ fs.length ≤ 1000 ∧ dx ≠ a ∧ h.get? a = some (PySem.W.instObj C dx) ∧
      ∃ mA, h.Ns1 dx mA ∧ (∀ f, RelO (fs.lookup f) (mA f)) ∧ PySem.Within mA (fs.map (·.1))
  | .own _ => ∃ o, h.get? a = some o
  | .xd fs => ∃ mA, h.Ns1 a mA ∧ ∀ f, RelO (fs.lookup f) (mA f)
  | .rng lo hi => ∃ t u v, h.get? a = some { cls := .type "range", data := .fields #[.int lo t, .int hi u, .int 1 v] }
  | .frz o u => h.get? a = some o ∧ ObjOk H h a u
  | .tbl ps => h.get? a = some { cls := .none, data := .fields ps }
  | .met f x => h.get? a = some (PySem.W.methodObj (.ref f) (.ref x))
  | .ext φ => φ h ∧ (∃ o, h.get? a = some o) ∧ ∀ h1 h2 : Heap, φ h1 → (∀ o, h1.get? a = some o → h2.get? a = some o) → φ h2
/-- the abstract heap is held -/
def HOk (H : Hp) (h : Heap) : Prop := ∀ a o, H a = some o → ObjOk P w H h a o
end

section
variable {P : Program} {w : World} {H H' : Hp} {h h' : Heap} {a : Addr} {o : HO}
theorem ObjOk.lt (x : ObjOk P w H h a o) : a < h.objs.size := by
  cases o with
  | lst xs => obtain ⟨_, _, _, _, e⟩ := x; exact Heap.lt_size e
  | tup xs => obtain ⟨_, _, _, p⟩ := x; exact p.lt
  | dK kvs => obtain ⟨_, _, _, _, o, _, _, e, _⟩ := x; exact Heap.lt_size e
  | dT kvs => obtain ⟨_, _, _, _, o, _, _, e, _⟩ := x; exact Heap.lt_size e
  | set S n => obtain ⟨o, _, _, _, e, _⟩ := x; exact Heap.lt_size e
  | ins C dx fs => obtain ⟨_, _, _, e, _⟩ := x; exact Heap.lt_size e
  | own y => obtain ⟨_, e⟩ := x; exact Heap.lt_size e
  | xd fs => obtain ⟨_, ⟨_, _, _, e, _⟩, _⟩ := x; exact Heap.lt_size e
  | rng lo hi => obtain ⟨_, _, _, e⟩ := x; exact Heap.lt_size e
  | frz ob u => obtain ⟨e, _⟩ := x; exact Heap.lt_size e
  | tbl ps => exact Heap.lt_size (show h.get? a = some _ from x)
  | met f y => exact Heap.lt_size (show h.get? a = some _ from x)
  | ext φ => obtain ⟨_, ⟨_, e⟩, _⟩ := x; exact Heap.lt_size e
theorem Paired.mapP {α β : Type} {F G : α → β → Prop} : ∀ {l₁ : List α} {l₂ : List β}, Paired F l₁ l₂ → (∀ a b, F a b → G a b) → Paired G l₁ l₂
  | _, _, .nil, _ => .nil
  | _, _, .cons r t, f => .cons (f _ _ r) (Paired.mapP t f)
theorem Paired.imp' {α β : Type} {F G : α → β → Prop} (f : ∀ a b, F a b → G a b) {l₁ : List α} {l₂ : List β} (r : Paired F l₁ l₂) : Paired G l₁ l₂ := Paired.mapP r f
/-- what an object's description leans on: its own object, its own dict, the tuples -/
theorem ObjOk.stay (x : ObjOk P w H h a o) (k : ∀ b u, (b = a ∨ H b = some (.own a)) → h.get? b = some u → h'.get? b = some u)
    (ho : ∀ b, H b = some (.own a) → H' b = some (.own a)) (ht : ∀ b xs, H b = some (.tup xs) → H' b = some (.tup xs)) : ObjOk P w H' h' a o := by
  induction o with
  | lst xs => obtain ⟨z, its, n, r, e⟩ := x; exact ⟨z, its, n, r, k _ _ (.inl rfl) e⟩
  | tup xs => obtain ⟨z, its, r, ob, e, c⟩ := x; exact ⟨z, its, r, ob, k _ _ (.inl rfl) e, c⟩
  | dK kvs => obtain ⟨z, y, vs, r, ob, es, ep, e, c⟩ := x; exact ⟨z, y, vs, r, ob, es, ep, k _ _ (.inl rfl) e, c⟩
  | dT kvs =>
    obtain ⟨z, y, xs, r, ob, es, ep, e, c⟩ := x
    exact ⟨z, y, xs, Paired.mapP r fun p q z => ⟨z.1, ht _ _ z.2.1, z.2.2⟩, ob, es, ep, k _ _ (.inl rfl) e, c⟩
  | set S n => obtain ⟨ob, es, ep, t, e, c⟩ := x; exact ⟨ob, es, ep, t, k _ _ (.inl rfl) e, c⟩
  | ins C dx fs =>
    obtain ⟨d, z, ne, e, mA, ⟨od, es, ep, e2, c⟩, r⟩ := x
    exact ⟨ho _ d, z, ne, k _ _ (.inl rfl) e, mA, ⟨od, es, ep, k _ _ (.inr d) e2, c⟩, r⟩
  | own y => obtain ⟨ob, e⟩ := x; exact ⟨ob, k _ _ (.inl rfl) e⟩
  | xd fs => obtain ⟨mA, ⟨od, es, ep, e, c⟩, r⟩ := x; exact ⟨mA, ⟨od, es, ep, k _ _ (.inl rfl) e, c⟩, r⟩
  | rng lo hi => obtain ⟨t, u, v, e⟩ := x; exact ⟨t, u, v, k _ _ (.inl rfl) e⟩
  | frz ob u ih => obtain ⟨e, q⟩ := x; exact ⟨k _ _ (.inl rfl) e, ih q⟩
  | tbl ps =>
    have e : h.get? a = some { cls := .none, data := .fields ps } := x
    show h'.get? a = some { cls := .none, data := .fields ps }
    exact k a _ (.inl rfl) e
  | met f y =>
    have e : h.get? a = some (PySem.W.methodObj (.ref f) (.ref y)) := x
    show h'.get? a = some (PySem.W.methodObj (.ref f) (.ref y))
    exact k a _ (.inl rfl) e
  | ext φ => obtain ⟨p, ⟨o, e⟩, st⟩ := x; exact ⟨st _ _ p fun o q => k _ _ (.inl rfl) q, ⟨o, k _ _ (.inl rfl) e⟩, st⟩
theorem HOk.lt (x : HOk P w H h) (e : H a = some o) : a < h.objs.size := (x a o e).lt
theorem HOk.fresh (x : HOk P w H h) (e : h.objs.size ≤ a) : H a = none := by
  cases q : H a with
  | none => rfl
  | some u => exact absurd (Nat.lt_of_lt_of_le (x.lt q) e) (Nat.lt_irrefl _)
/-- every object of the heap is kept -/
theorem HOk.kept (x : HOk P w H h) (k : ∀ b u, h.get? b = some u → h'.get? b = some u) : HOk P w H h' := fun a o e =>
  (x a o e).stay (fun b u _ q => k b u q) (fun _ q => q) fun _ _ q => q
/-- a new object is laid and tracked -/
theorem HOk.laid (x : HOk P w H h) (k : ∀ b u, h.get? b = some u → h'.get? b = some u) (hp : h.objs.size ≤ a) (new : ObjOk P w (upd H a o) h' a o) : HOk P w (upd H a o) h' := fun b u e => by
  have hn := x.fresh hp
  by_cases hb : b = a
  · subst hb; rw [upd_same] at e; cases e; exact new
  · rw [upd_ne hb] at e
    exact (x b u e).stay (fun c v _ q => k c v q) (fun c q => by rw [upd_ne (ne_of_none q hn)]; exact q) fun c xs q => by rw [upd_ne (ne_of_none q hn)]; exact q
end

/-- what may be read as u: it is u, or a known u -/
def Rd (H : Hp) (a : Addr) (u : HO) : Prop := H a = some u ∨ ∃ o, H a = some (.frz o u)
theorem Rd.of {H : Hp} {a : Addr} {u : HO} (h : H a = some u) : Rd H a u := .inl h
theorem Rd.ok {P : Program} {w : World} {H : Hp} {h : Heap} {a : Addr} {u : HO} (r : Rd H a u) (x : HOk P w H h) : ObjOk P w H h a u := by
  rcases r with r | ⟨o, r⟩
  · exact x a u r
  · obtain ⟨_, q⟩ := x a _ r
    exact q
/-- what may be written -/
def Mut : Option HO → Prop
  | some (.lst _) => True
  | some (.dK _) => True
  | some (.dT _) => True
  | some (.set _ _) => True
  | some (.ins _ _ _) => True
  | some (.ext _) => True
  | _ => False
section
variable {P : Program} {w : World} {H : Hp} {h h' : Heap} {x e : Addr} {o' : HO}
/-- the object at e is changed: x itself, or the dict of the instance x -/
theorem HOk.write (ok : HOk P w H h) (mu : Mut (H x)) (he : e = x ∨ H e = some (.own x)) (k : ∀ b u, b ≠ e → h.get? b = some u → h'.get? b = some u) (heo : ∃ u, h'.get? e = some u)
    (new : ObjOk P w (upd H x o') h' x o') : HOk P w (upd H x o') h' := fun b u q => by
  have nown : ∀ c y, H c = some (.own y) → c ≠ x := fun c y r z => by subst z; rw [r] at mu; exact mu
  have ntup : ∀ c xs, H c = some (.tup xs) → c ≠ x := fun c xs r z => by subst z; rw [r] at mu; exact mu
  by_cases hb : b = x
  · subst hb; rw [upd_same] at q; cases q; exact new
  · rw [upd_ne hb] at q
    by_cases hbe : b = e
    · have q' : H b = some (.own x) := by
        rcases he with z | z
        · exact absurd (hbe.trans z) hb
        · rw [hbe]; exact z
      rw [q] at q'; cases q'
      obtain ⟨v, hv⟩ := heo
      exact ⟨v, by rw [hbe]; exact hv⟩
    · refine (ok b u q).stay (fun c v hc r => k c v ?_ r) (fun c r => by rw [upd_ne (nown c b r)]; exact r) fun c xs r => by rw [upd_ne (ntup c xs r)]; exact r
      rcases hc with rfl | hc
      · exact hbe
      · rintro rfl
        rcases he with z | z
        · exact nown c b hc z
        · rw [hc] at z; cases z; exact hb rfl
end

/-! ### kept unless tracked; of the frames at fs (the callers') the slots may change (an exception that passes writes there); of the records at ex (iterators) nothing is said -/
structure Un (fs ex : List Addr) (H H' : Hp) (h h' : Heap) : Prop where
  keep : ∀ b o, h.get? b = some o → H b = none → b ∉ fs → b ∉ ex → h'.get? b = some o
  slot : ∀ b o, h.get? b = some o → H b = none → b ∈ fs → b ∉ ex → ∃ sl, h'.get? b = some { o with slots := sl }
  free : ∀ b o, h.get? b = some o → H b = none → b ∉ ex → H' b = none
  there : ∀ b o, h.get? b = some o → b ∉ ex → ∃ o', h'.get? b = some o'
  tups : ∀ b xs, H b = some (.tup xs) → H' b = some (.tup xs)
  frzs : ∀ b o u, H b = some (.frz o u) → H' b = some (.frz o u)
  tbls : ∀ b ps, H b = some (.tbl ps) → ∃ more, H' b = some (.tbl (ps ++ more))
section
variable {fs fs' ex ex' : List Addr} {H H1 H2 : Hp} {h h1 h2 h' : Heap} {a x e : Addr} {o : HO}
theorem Un.any (u : Un fs ex H H1 h h1) {b : Addr} {ob : Obj} (q : h.get? b = some ob) (n : H b = none) (hx : b ∉ ex) : ∃ sl, h1.get? b = some { ob with slots := sl } := by
  by_cases hb : b ∈ fs
  · exact u.slot b ob q n hb hx
  · exact ⟨ob.slots, u.keep b ob q n hb hx⟩
theorem Un.trans (a : Un fs ex H H1 h h1) (b : Un fs ex H1 H2 h1 h2) : Un fs ex H H2 h h2 where
  keep := fun c ob q n hc hx => b.keep c ob (a.keep c ob q n hc hx) (a.free c ob q n hx) hc hx
  slot := fun c ob q n hc hx => by
    obtain ⟨sl, e1⟩ := a.slot c ob q n hc hx
    obtain ⟨sl', e2⟩ := b.slot c _ e1 (a.free c ob q n hx) hc hx
    exact ⟨sl', e2⟩
  free := fun c ob q n hx => by
    obtain ⟨o', e1⟩ := a.there c ob q hx
    exact b.free c o' e1 (a.free c ob q n hx) hx
  there := fun c ob q hx => by
    obtain ⟨o', e1⟩ := a.there c ob q hx
    exact b.there c o' e1 hx
  tups := fun c xs q => b.tups c xs (a.tups c xs q)
  frzs := fun c ob xs q => b.frzs c ob xs (a.frzs c ob xs q)
  tbls := fun c ps q => by
    obtain ⟨m1, e1⟩ := a.tbls c ps q
    obtain ⟨m2, e2⟩ := b.tbls c _ e1
    exact ⟨m1 ++ m2, by rw [e2, Array.append_assoc]⟩
theorem Un.kept (k : ∀ b u, h.get? b = some u → h'.get? b = some u) : Un fs ex H H h h' :=
  ⟨fun b ob q _ _ _ => k b ob q, fun b ob q _ _ _ => ⟨ob.slots, k b ob q⟩, fun _ _ _ n _ => n, fun b ob q _ => ⟨ob, k b ob q⟩, fun _ _ q => q, fun _ _ _ q => q, fun _ ps q => ⟨#[], by rw [q]; simp⟩⟩
theorem Un.refl : Un fs ex H H h h := Un.kept fun _ _ q => q
theorem Un.laid (k : ∀ b u, h.get? b = some u → h'.get? b = some u) (hp : h.objs.size ≤ a) (hn : H a = none) : Un fs ex H (upd H a o) h h' where
  keep := fun b u q _ _ _ => k b u q
  slot := fun b u q _ _ _ => ⟨u.slots, k b u q⟩
  free := fun b u q n _ => by rw [upd_ne (Nat.ne_of_lt (Nat.lt_of_lt_of_le (Heap.lt_size q) hp))]; exact n
  there := fun b u q _ => ⟨u, k b u q⟩
  tups := fun b xs q => by rw [upd_ne (ne_of_none q hn)]; exact q
  frzs := fun b u xs q => by rw [upd_ne (ne_of_none q hn)]; exact q
  tbls := fun b ps q => ⟨#[], by rw [upd_ne (ne_of_none q hn), q]; simp⟩
theorem Un.write (mu : Mut (H x)) (he : e = x ∨ H e = some (.own x)) (k : ∀ b u, b ≠ e → h.get? b = some u → h'.get? b = some u) (heo : ∃ u, h'.get? e = some u) : Un fs ex H (upd H x o) h h' := by
  have hx : ∀ b, H b = none → b ≠ x := fun b n z => by subst z; rw [n] at mu; exact mu
  have hb : ∀ b, H b = none → b ≠ e := fun b n z => by
    subst z
    rcases he with r | r
    · exact hx b n r
    · rw [n] at r; cases r
  have hm : ∀ b u, H b = some u → ¬ Mut (some u) → b ≠ x := fun b u q nm z => by subst z; rw [q] at mu; exact nm mu
  refine ⟨fun b u q n _ _ => k b u (hb b n) q, fun b u q n _ _ => ⟨u.slots, k b u (hb b n) q⟩, fun b u q n _ => by rw [upd_ne (hx b n)]; exact n, fun b u q _ => ?_,
    fun b xs q => by rw [upd_ne (hm b _ q fun z => z)]; exact q, fun b u xs q => by rw [upd_ne (hm b _ q fun z => z)]; exact q, fun b ps q => ⟨#[], by rw [upd_ne (hm b _ q fun z => z), q]; simp⟩⟩
  by_cases hbe : b = e
  · subst hbe; exact heo
  · exact ⟨u, k b u hbe q⟩
theorem Un.mono (u : Un fs ex H H1 h h1) (hs : ∀ b ∈ fs, b ∈ fs') (hx : ∀ b ∈ ex, b ∈ ex') : Un fs' ex' H H1 h h1 :=
  ⟨fun b ob q n hb he => u.keep b ob q n (fun z => hb (hs b z)) fun z => he (hx b z), fun _ _ q n _ he => u.any q n fun z => he (hx _ z), fun b ob q n he => u.free b ob q n fun z => he (hx b z), fun b ob q he => u.there b ob q fun z => he (hx b z), u.tups, u.frzs, u.tbls⟩
end

/-! ### the heap without what is tracked -/
def trk (h : Heap) (H : Hp) : List Addr := (List.range h.objs.size).filter fun a => (H a).isSome
def hidT (h : Heap) (H : Hp) : Heap := PySem.W.hideAll h (trk h H)
theorem hidT_size (h : Heap) (H : Hp) : (hidT h H).objs.size = h.objs.size := PySem.W.hideAll_size _ _
theorem hidT_get {h : Heap} {H : Hp} {b : Addr} {o : Obj} (e : h.get? b = some o) (n : H b = none) : (hidT h H).get? b = some o :=
  PySem.W.hideAll_get _ e fun hm => by
    have q : (H b).isSome = true := (List.mem_filter.mp hm).2
    rw [n] at q; simp at q
theorem of_hidT {h : Heap} {H : Hp} {b : Addr} {o : Obj} (e : (hidT h H).get? b = some o) : h.get? b = some o ∧ H b = none := by
  have e' : h.get? b = some o := PySem.W.of_hideAll (trk h H) e
  refine ⟨e', ?_⟩
  cases q : H b with
  | none => rfl
  | some x =>
    have hm : b ∈ trk h H := List.mem_filter.mpr ⟨List.mem_range.mpr (Heap.lt_size e'), by simp [q]⟩
    have z : (hidT h H).get? b = none := PySem.W.hideAll_none (trk h H) hm
    rw [z] at e; cases e

/-! ### OpenK's ledger, filled with every new object but one -/
def allNews (g h : Heap) (L : Addr) : List (Addr × Obj) := (List.range h.objs.size).filterMap fun a => if a = L ∨ (g.get? a).isSome = true then none else (h.get? a).map fun o => (a, o)
theorem mem_allNews {g h : Heap} {L a : Addr} {o : Obj} (h1 : a ≠ L) (h2 : g.get? a = none) (h3 : h.get? a = some o) : (a, o) ∈ allNews g h L :=
  List.mem_filterMap.mpr ⟨a, List.mem_range.mpr (Heap.lt_size h3), by simp [h1, h2, h3]⟩
theorem of_mem_allNews {g h : Heap} {L : Addr} {p : Addr × Obj} (hp : p ∈ allNews g h L) : p.1 ≠ L ∧ g.get? p.1 = none ∧ h.get? p.1 = some p.2 := by
  obtain ⟨b, _, e⟩ := List.mem_filterMap.mp hp
  split at e
  · cases e
  · rename_i hn
    cases q : h.get? b with
    | none => rw [q] at e; simp at e
    | some u =>
      rw [q] at e
      simp only [Option.map_some, Option.some.injEq] at e
      subst e
      refine ⟨fun z => hn (.inl z), ?_, q⟩
      show g.get? b = none
      cases r : g.get? b with
      | none => rfl
      | some v => exact (hn (.inr (by simp [r]))).elim
def rest (g h : Heap) (L d : Addr) : List (Addr × Obj) := (allNews g h L).filter fun p => decide (p.1 ≠ d)
theorem rest_ne {g h : Heap} {L d : Addr} : ∀ p ∈ rest g h L d, p.1 ≠ d := fun p hp => of_decide_eq_true (List.mem_filter.mp hp).2
theorem mem_rest {g h : Heap} {L d a : Addr} {o : Obj} (h1 : a ≠ L) (h2 : g.get? a = none) (h3 : h.get? a = some o) (h4 : a ≠ d) : (a, o) ∈ rest g h L d :=
  List.mem_filter.mpr ⟨mem_allNews h1 h2 h3, decide_eq_true h4⟩
theorem news_all {g h : Heap} {L : Addr} : News g L h (allNews g h L) := fun p hp => let ⟨a, b, c⟩ := of_mem_allNews hp; ⟨c, a, b⟩
theorem news_at {g h : Heap} {L d : Addr} {o : Obj} (h1 : d ≠ L) (h2 : g.get? d = none) (h3 : h.get? d = some o) : News g L h ((d, o) :: rest g h L d) := fun p hp => by
  rcases List.mem_cons.mp hp with rfl | hp
  · exact ⟨h3, h1, h2⟩
  · exact news_all p (List.mem_filter.mp hp).1
/-- behind a rule that changed d alone: all else but the frame is kept -/
theorem kept_of_news {g h h' : Heap} {L d : Addr} {m : Str → Option Value} (k : ∀ b o, g.get? b = some o → h.get? b = some o) (F : Fr g L h' m) (N : News g L h' (rest g h L d)) :
    ∀ b o, b ≠ L → b ≠ d → h.get? b = some o → h'.get? b = some o := fun b o h1 h2 e => by
  cases q : g.get? b with
  | some u =>
    have := k b u q
    rw [e] at this; cases this
    exact F.keep b _ q
  | none => exact (N (b, o) (mem_rest h1 q e h2)).1
end L2

namespace L2
open PySem PySem.Spec PyProof.Rows

/-- the module's facts, over the base: the heap at the law's entry without what is tracked there -/
structure Mod (K : PySem.W.Frag) (mg : Str → Option Value) (base : Heap) : Prop where
  kin : K.In base
  glob : base.Ns mainGlobals mg
  blt : ∃ mb, base.Ns builtinsNs mb ∧ ∀ x : Str, x ≠ "__name__" → mb x = bootBuiltins x
  nolimit : base.NoLimit

/-- the context: a def's body (or a comprehension's block) running. base: fixed through the whole law; s₀, H₀: the entry; outer: the frames whose slots others may change (a def's callers); stack: all frames that run;
   ex: iterators that were made ahead of the entry and are walked here (a comprehension's); fn: the names whose cells were made at the entry (a def: all; a comprehension's block: its own); calm: not within an except suite; pn: pins that every state bears; xe: what is wanted of an exception that leaves the code -/
structure Cx where
  prog : Program
  w : World
  K : PySem.W.Frag
  mg : Str → Option Value
  base : Heap
  A : Around
  N : List Str
  s_0 : Shared
  H_0 : Hp
  env : Env
  outer : List Env
  stack : List Env
  ex : List Addr
  fn : Str → Bool
  calm : Bool
  pn : List (Addr × Obj)
  xe : Value → Shared → Prop
/-- the callers' frames -/
def frs (l : List Env) : List Addr := l.filterMap (·.frame)
abbrev Cx.fs (X : Cx) : List Addr := frs X.outer

def Vis (sc : Scope) (x : Str) : Prop := sc.names.lookup x = some .local ∨ sc.names.lookup x = some .cell ∨ sc.names.lookup x = some .free
def Loc (sc : Scope) (x : Str) : Prop := sc.names.lookup x = some .local ∨ sc.names.lookup x = some .cell
def Look (env : Env) (h : Heap) (m : Str → Option Value) (x : Str) (u : Value) : Prop :=
  (env.kindOf x = some .local ∧ m x = some u) ∨ ((env.kindOf x = some .cell ∨ env.kindOf x = some .free) ∧ ∃ c, env.cells.lookup x = some c ∧ h.IsCell c (some u))

structure Cx.Ok (X : Cx) : Prop where
  mod : Mod X.K X.mg X.base
  kind : X.env.scope.kind = .function
  glob : X.env.globals = mainGlobals
  blt : X.env.builtins = builtinsNs
  above : X.s_0.heap.objs.size ≤ X.env.locals
  inj : ∀ x y c, X.env.cells.lookup x = some c → X.env.cells.lookup y = some c → x = y
  has : ∀ x, (X.env.kindOf x = some .cell ∨ X.env.kindOf x = some .free) → ∃ c, X.env.cells.lookup x = some c
  cab : ∀ x c, X.fn x = true → X.env.cells.lookup x = some c → X.s_0.heap.objs.size ≤ c
  hd : X.calm = true → X.A.handled = none
  frames : X.A.frames = some X.stack
  stk : X.stack = X.outer ∨ (X.stack = X.env :: X.outer ∧ X.env.frame = some X.env.locals)
  exf : ∀ b ∈ X.ex, b ≠ X.env.locals ∧ ∀ x c, X.env.cells.lookup x = some c → c ≠ b
  bs : ∀ b o, X.base.get? b = some o → X.s_0.heap.get? b = some o ∧ X.H_0 b = none
  bsz : X.base.objs.size ≤ X.s_0.heap.objs.size
  noex : ∀ b o, X.base.get? b = some o → b ∉ X.ex
  exfs : ∀ b ∈ X.ex, b ∉ X.fs
  funs : X.s_0.heap.FunFrames X.base X.outer
  frf : ∀ b ∈ X.fs, X.H_0 b = none

structure Inv (X : Cx) (pins : List (Addr × Obj)) (σ : List (Option V)) (H : Hp) (s : Shared) : Prop where
  ok : X.Ok
  os : s.os = X.s_0.os
  bare : AllBare s.gens
  base : Un X.fs X.ex X.H_0 H X.s_0.heap s.heap
  loc : ∃ m, s.heap.Ns X.env.locals m ∧ ∀ (i : Nat) (x : Str) (v : V), X.N[i]? = some x → σ[i]? = some (some v) → Vis X.env.scope x → ∃ u, RelV v u ∧ Look X.env s.heap m x u
  cell : ∀ x c, X.env.cells.lookup x = some c → ∃ v, s.heap.IsCell c v
  free : H X.env.locals = none
  freeC : ∀ x c, X.env.cells.lookup x = some c → H c = none
  pin : ∀ p ∈ X.pn ++ pins, s.heap.get? p.1 = some p.2 ∧ H p.1 = none ∧ p.1 ≠ X.env.locals ∧ p.1 ∉ X.fs ∧ ∀ v, p.2.data ≠ .cell v
  hok : HOk X.prog X.w H s.heap
  len : σ.length = X.N.length

section
variable {X : Cx} {pins : List (Addr × Obj)} {σ : List (Option V)} {H H' : Hp} {s : Shared} {h' : Heap}

theorem Cx.Ok.nofr (ok : X.Ok) {b : Addr} {o : Obj} (e : X.base.get? b = some o) : b ∉ X.fs := fun hb => by
  have := (ok.funs.mem hb).1
  rw [e] at this; cases this
theorem Inv.bs (I : Inv X pins σ H s) : ∀ b o, X.base.get? b = some o → s.heap.get? b = some o ∧ H b = none := fun b o e =>
  ⟨I.base.keep b o (I.ok.bs b o e).1 (I.ok.bs b o e).2 (I.ok.nofr e) (I.ok.noex b o e), I.base.free b o (I.ok.bs b o e).1 (I.ok.bs b o e).2 (I.ok.noex b o e)⟩
theorem Inv.bk (I : Inv X pins σ H s) : ∀ b o, X.base.get? b = some o → s.heap.get? b = some o := fun b o e => (I.bs b o e).1
theorem Inv.mod (I : Inv X pins σ H s) : Mod X.K X.mg X.base := I.ok.mod
theorem Inv.kIn (I : Inv X pins σ H s) : X.K.In s.heap := I.ok.mod.kin.keeps I.bk
theorem Inv.nolimit (I : Inv X pins σ H s) : s.heap.NoLimit := I.ok.mod.nolimit.keeps I.bk
/-- the frame over the base: for OpenK's rules (K.In X.base is I.mod.kin) -/
theorem Inv.fr (I : Inv X pins σ H s) : ∃ m, Fr X.base X.env.locals s.heap m :=
  let ⟨m, hn, _⟩ := I.loc
  ⟨m, hn, I.bk, Nat.le_trans I.ok.bsz I.ok.above⟩
theorem Inv.lt (I : Inv X pins σ H s) : X.env.locals < s.heap.objs.size := let ⟨_, hn, _⟩ := I.loc; hn.lt
theorem Inv.sz (I : Inv X pins σ H s) : X.s_0.heap.objs.size ≤ s.heap.objs.size := Nat.le_trans I.ok.above (Nat.le_of_lt I.lt)
theorem Inv.nofs (I : Inv X pins σ H s) {a : Addr} (h : s.heap.objs.size ≤ a) : a ∉ X.fs := fun hb => by
  obtain ⟨_, o, ho, _⟩ := I.ok.funs.mem hb
  exact absurd (Nat.lt_of_lt_of_le (Heap.lt_size ho) (Nat.le_trans I.sz h)) (Nat.lt_irrefl _)
theorem Inv.cne (I : Inv X pins σ H s) : ∀ x c, X.env.cells.lookup x = some c → c ≠ X.env.locals := fun x c e z => by
  obtain ⟨v, o, ho, hd⟩ := I.cell x c e
  obtain ⟨m, ⟨o', es, ep, ho', hd', _⟩, _⟩ := I.loc
  rw [z, ho'] at ho; cases ho; rw [hd'] at hd; cases hd
theorem Inv.funs (I : Inv X pins σ H s) : s.heap.FunFrames X.base X.outer := by
  have all : ∀ (l : List Env), (∀ b ∈ frs l, b ∈ X.fs) → X.s_0.heap.FunFrames X.base l → s.heap.FunFrames X.base l := by
    intro l
    induction l with
    | nil => intro _ _; trivial
    | cons env r ih =>
      intro hs hl
      obtain ⟨hk, ⟨L, o, hf, hn, ho, hd⟩, hr⟩ := hl
      have hL : L ∈ X.fs := hs L (by unfold frs; rw [List.filterMap_cons, hf]; exact List.mem_cons_self)
      obtain ⟨sl, e⟩ := I.base.slot L o ho (I.ok.frf L hL) hL fun z => I.ok.exfs L z hL
      exact ⟨hk, ⟨L, _, hf, hn, e, hd⟩, ih (fun b hb => hs b (by unfold frs; rw [List.filterMap_cons, hf]; exact List.mem_cons_of_mem _ hb)) hr⟩
  exact all X.outer (fun _ hb => hb) I.ok.funs

/-- the frames that run, for a call -/
theorem Inv.stack (I : Inv X pins σ H s) : s.heap.FunFrames X.base X.stack := by
  rcases I.ok.stk with e | ⟨e, hf⟩
  · rw [e]; exact I.funs
  · rw [e]
    obtain ⟨m, hn, _⟩ := I.loc
    refine .cons (by rw [I.ok.kind]; decide) hf hn ?_ I.funs
    exact Heap.get?_none_of_le (Nat.le_trans I.ok.bsz I.ok.above)
theorem Inv.stkSub (I : Inv X pins σ H s) : ∀ b ∈ frs X.stack, b ∈ X.env.locals :: X.fs := fun b hb => by
  rcases I.ok.stk with e | ⟨e, hf⟩
  · rw [e] at hb; exact List.mem_cons_of_mem _ hb
  · rw [e] at hb
    unfold frs at hb
    rw [List.filterMap_cons, hf] at hb
    exact hb
theorem Inv.stkFree (I : Inv X pins σ H s) : ∀ b ∈ frs X.stack, H b = none := fun b hb => by
  rcases List.mem_cons.mp (I.stkSub b hb) with e | hb
  · rw [e]; exact I.free
  · obtain ⟨_, o, ho, _⟩ := I.ok.funs.mem hb
    exact I.base.free b o ho (I.ok.frf b hb) fun z => I.ok.exfs b z hb

/-- THE STEP: the untracked objects but the frame and the records at ch are kept (the callers' frames up to slots), the frame's map is kept, the new abstract heap is held -/
theorem Inv.step {g' : Array GenState} {t' : Nat} {d' : Drawn} {ch : List Addr} (I : Inv X pins σ H s)
    (hch : ∀ b ∈ ch, (b ∈ X.ex ∨ X.s_0.heap.objs.size ≤ b) ∧ b ≠ X.env.locals ∧ (∀ x c, X.env.cells.lookup x = some c → c ≠ b) ∧ ∀ p ∈ X.pn ++ pins, p.1 ≠ b)
    (keep : ∀ b o, b ≠ X.env.locals → b ∉ X.fs → b ∉ ch → s.heap.get? b = some o → H b = none → h'.get? b = some o)
    (slot : ∀ b o, b ≠ X.env.locals → b ∈ X.fs → b ∉ ch → s.heap.get? b = some o → H b = none → ∃ sl, h'.get? b = some { o with slots := sl }) (free : ∀ b o, b ∉ ch → s.heap.get? b = some o → H b = none → H' b = none)
    (there : ∀ b o, b ∉ ch → s.heap.get? b = some o → ∃ o', h'.get? b = some o')
    (tups : ∀ b xs, H b = some (.tup xs) → H' b = some (.tup xs)) (frzs : ∀ b o u, H b = some (.frz o u) → H' b = some (.frz o u)) (tbls : ∀ b ps, H b = some (.tbl ps) → ∃ more, H' b = some (.tbl (ps ++ more)))
    (ns : ∀ m, s.heap.Ns X.env.locals m → h'.Ns X.env.locals m) (hok : HOk X.prog X.w H' h') (hg : AllBare g') :
    Inv X pins σ H' { s with heap := h', gens := g', drawn := d', toks := t' } := by
  have neL : ∀ b o, X.s_0.heap.get? b = some o → b ≠ X.env.locals := fun b o e => Nat.ne_of_lt (Nat.lt_of_lt_of_le (Heap.lt_size e) I.ok.above)
  have neC : ∀ b o, X.s_0.heap.get? b = some o → b ∉ X.ex → b ∉ ch := fun b o e hx hb => by
    rcases (hch b hb).1 with z | z
    · exact hx z
    · exact absurd (Nat.lt_of_lt_of_le (Heap.lt_size e) z) (Nat.lt_irrefl _)
  have cellK : ∀ x c, X.env.cells.lookup x = some c → ∀ v, s.heap.IsCell c v → h'.IsCell c v := fun x c e v ⟨o, ho, hd⟩ => by
    have nch : c ∉ ch := fun z => (hch c z).2.2.1 x c e rfl
    by_cases hc : c ∈ X.fs
    · obtain ⟨sl, q⟩ := slot c o (I.cne x c e) hc nch ho (I.freeC x c e)
      exact ⟨_, q, hd⟩
    · exact ⟨o, keep c o (I.cne x c e) hc nch ho (I.freeC x c e), hd⟩
  refine ⟨I.ok, I.os, hg, ⟨fun b o e n hb hx => ?_, fun b o e n hb hx => ?_, fun b o e n hx => ?_, fun b o e hx => ?_, fun b xs e => tups b xs (I.base.tups b xs e), fun b o xs e => frzs b o xs (I.base.frzs b o xs e), fun b ps e => ?_⟩, ?_, fun x c e => ?_, ?_, fun x c e => ?_, fun p hp => ?_, hok, I.len⟩
  · exact keep b o (neL b o e) hb (neC b o e hx) (I.base.keep b o e n hb hx) (I.base.free b o e n hx)
  · obtain ⟨sl, e1⟩ := I.base.slot b o e n hb hx
    obtain ⟨sl', e2⟩ := slot b _ (neL b o e) hb (neC b o e hx) e1 (I.base.free b o e n hx)
    exact ⟨sl', e2⟩
  · obtain ⟨o', e1⟩ := I.base.there b o e hx
    exact free b o' (neC b o e hx) e1 (I.base.free b o e n hx)
  · obtain ⟨o', e1⟩ := I.base.there b o e hx
    exact there b o' (neC b o e hx) e1
  · obtain ⟨m1, e1⟩ := I.base.tbls b ps e
    obtain ⟨m2, e2⟩ := tbls b _ e1
    exact ⟨m1 ++ m2, by rw [e2, Array.append_assoc]⟩
  · obtain ⟨m, hn, hl⟩ := I.loc
    refine ⟨m, ns m hn, fun i x v e1 e2 e3 => ?_⟩
    obtain ⟨u, r, l⟩ := hl i x v e1 e2 e3
    refine ⟨u, r, ?_⟩
    rcases l with l | ⟨k, c, e, z⟩
    · exact .inl l
    · exact .inr ⟨k, c, e, cellK x c e _ z⟩
  · obtain ⟨v, z⟩ := I.cell x c e
    exact ⟨v, cellK x c e v z⟩
  · obtain ⟨m, ⟨o, _, _, ho, _⟩, _⟩ := I.loc
    exact free _ o (fun z => (hch _ z).2.1 rfl) ho I.free
  · obtain ⟨v, o, ho, hd⟩ := I.cell x c e
    exact free c o (fun z => (hch c z).2.2.1 x c e rfl) ho (I.freeC x c e)
  · obtain ⟨e, n, ne, nf, d⟩ := I.pin p hp
    have nch : p.1 ∉ ch := fun z => (hch p.1 z).2.2.2 p hp rfl
    exact ⟨keep p.1 p.2 ne nf nch e n, free p.1 p.2 nch e n, ne, nf, d⟩
/-- .. where the frame's own object is kept too -/
theorem Inv.un {t' : Nat} (I : Inv X pins σ H s) (u : Un X.fs [] H H' s.heap h') (hok : HOk X.prog X.w H' h') : Inv X pins σ H' { s with heap := h', toks := t' } := by
  obtain ⟨m, ⟨o, es, ep, ho, r⟩, _⟩ := id I.loc
  obtain ⟨sl, hL⟩ := u.any ho I.free (by simp)
  exact I.step (g' := s.gens) (d' := s.drawn) (ch := []) (fun _ z => nomatch z) (fun b o _ hb _ e n => u.keep b o e n hb (by simp)) (fun b o _ hb _ e n => u.slot b o e n hb (by simp)) (fun b o _ e n => u.free b o e n (by simp)) (fun b o _ e => u.there b o e (by simp)) u.tups u.frzs u.tbls (fun m' hm => by
    obtain ⟨o', es', ep', ho', r'⟩ := hm
    rw [ho] at ho'; cases ho'
    exact ⟨_, es', ep', hL, r'⟩) hok I.bare
/-- behind a call (or a comprehension's block): the slots of this frame may have changed too, the records at ch may have turned -/
theorem Inv.call {g' : Array GenState} {t' : Nat} {d' : Drawn} {ch : List Addr} (I : Inv X pins σ H s) (u : Un (frs X.stack) ch H H' s.heap h') (hok : HOk X.prog X.w H' h') (hg : AllBare g')
    (hch : ∀ b ∈ ch, (b ∈ X.ex ∨ X.s_0.heap.objs.size ≤ b) ∧ b ≠ X.env.locals ∧ (∀ x c, X.env.cells.lookup x = some c → c ≠ b) ∧ ∀ p ∈ X.pn ++ pins, p.1 ≠ b) :
    Inv X pins σ H' { s with heap := h', gens := g', drawn := d', toks := t' } := by
  obtain ⟨m, ⟨o, es, ep, ho, r⟩, _⟩ := id I.loc
  obtain ⟨sl, hL⟩ := u.any ho I.free fun z => (hch _ z).2.1 rfl
  exact I.step (ch := ch) hch (fun b o hL hb hc e n => u.keep b o e n (fun z => (List.mem_cons.mp (I.stkSub b z)).elim hL hb) hc) (fun b o _ _ hc e n => u.any e n hc) (fun b o hc e n => u.free b o e n hc) (fun b o hc e => u.there b o e hc) u.tups u.frzs u.tbls (fun m' hm => by
    obtain ⟨o', es', ep', ho', r'⟩ := hm
    rw [ho] at ho'; cases ho'
    exact ⟨_, es', ep', hL, r'⟩) hok hg
/-- an untracked record of ours (an iterator) has turned -/
theorem Inv.turned {t' : Nat} {it : Addr} (I : Inv X pins σ H s) (k : ∀ b o, b ≠ it → s.heap.get? b = some o → h'.get? b = some o) (hn : H it = none) (hL : it ≠ X.env.locals)
    (h1 : it ∈ X.ex ∨ X.s_0.heap.objs.size ≤ it) (h2 : ∀ x c, X.env.cells.lookup x = some c → c ≠ it) (h3 : ∀ p ∈ X.pn ++ pins, p.1 ≠ it) : Inv X pins σ H { s with heap := h', toks := t' } := by
  have nit : ∀ b u, H b = some u → b ≠ it := fun b u e z => by rw [z, hn] at e; cases e
  refine I.step (g' := s.gens) (d' := s.drawn) (ch := [it]) (fun b hb => ?_) (fun b o _ _ hc e _ => k b o (fun z => hc (by simp [z])) e) (fun b o _ _ hc e _ => ⟨o.slots, k b o (fun z => hc (by simp [z])) e⟩) (fun _ _ _ _ n => n)
    (fun b o hc e => ⟨o, k b o (fun z => hc (by simp [z])) e⟩) (fun _ _ e => e) (fun _ _ _ e => e) (fun b ps e => ⟨#[], by rw [e]; simp⟩) (fun m hm => ?_) (fun b u e => ?_) I.bare
  · have e : b = it := by simpa using hb
    subst e
    exact ⟨h1, hL, h2, h3⟩
  · obtain ⟨o, es, ep, ho, r⟩ := hm
    exact ⟨o, es, ep, k _ o (Ne.symm hL) ho, r⟩
  · refine (I.hok b u e).stay (fun c v hc q => k c v ?_ q) (fun _ q => q) fun _ _ q => q
    rcases hc with z | z
    · rw [z]; exact nit b u e
    · exact nit c _ z
theorem Inv.tok (I : Inv X pins σ H s) (t : Nat) : Inv X pins σ H { s with toks := t } := I.un (h' := s.heap) (t' := t) Un.refl I.hok
/-- all objects kept -/
theorem Inv.kept {t' : Nat} (I : Inv X pins σ H s) (k : ∀ b u, s.heap.get? b = some u → h'.get? b = some u) : Inv X pins σ H { s with heap := h', toks := t' } := I.un (Un.kept k) (I.hok.kept k)
/-- a new object laid and tracked -/
theorem Inv.laid {a : Addr} {o : HO} {t' : Nat} (I : Inv X pins σ H s) (k : ∀ b u, s.heap.get? b = some u → h'.get? b = some u) (hp : s.heap.objs.size ≤ a) (new : ObjOk X.prog X.w (upd H a o) h' a o) :
    Inv X pins σ (upd H a o) { s with heap := h', toks := t' } := I.un (Un.laid k hp (I.hok.fresh hp)) (I.hok.laid k hp new)
/-- an object written -/
theorem Inv.write {x e : Addr} {o : HO} {t' : Nat} (I : Inv X pins σ H s) (mu : Mut (H x)) (he : e = x ∨ H e = some (.own x)) (k : ∀ b u, b ≠ e → s.heap.get? b = some u → h'.get? b = some u) (heo : ∃ u, h'.get? e = some u)
    (new : ObjOk X.prog X.w (upd H x o) h' x o) : Inv X pins σ (upd H x o) { s with heap := h', toks := t' } := I.un (Un.write mu he k heo) (I.hok.write mu he k heo new)
/-- forgetting slots, pins -/
theorem Inv.weak {σ' : List (Option V)} (I : Inv X pins σ H s) (hl : σ'.length = σ.length) (w : ∀ (i : Nat) v, σ'[i]? = some (some v) → σ[i]? = some (some v)) : Inv X pins σ' H s :=
  ⟨I.ok, I.os, I.bare, I.base, let ⟨m, hn, hl'⟩ := I.loc; ⟨m, hn, fun i x v e1 e2 e3 => hl' i x v e1 (w i v e2) e3⟩, I.cell, I.free, I.freeC, I.pin, I.hok, hl.trans I.len⟩
theorem Inv.pins_of {pins' : List (Addr × Obj)} (I : Inv X pins σ H s) (h : ∀ p ∈ pins', s.heap.get? p.1 = some p.2 ∧ H p.1 = none ∧ p.1 ≠ X.env.locals ∧ p.1 ∉ X.fs ∧ ∀ v, p.2.data ≠ .cell v) : Inv X pins' σ H s :=
  ⟨I.ok, I.os, I.bare, I.base, I.loc, I.cell, I.free, I.freeC, fun p hp => (List.mem_append.mp hp).elim (fun z => I.pin p (List.mem_append_left _ z)) (h p), I.hok, I.len⟩

theorem nodup_ix {N : List Str} (hN : N.Nodup) {i j : Nat} {x : Str} (a : N[i]? = some x) (b : N[j]? = some x) : i = j := by
  obtain ⟨h1, e1⟩ := List.getElem?_eq_some_iff.mp a
  obtain ⟨h2, e2⟩ := List.getElem?_eq_some_iff.mp b
  exact (List.getElem_inj hN).mp (e1.trans e2.symm)

/-- a name is stored; what changed -/
theorem store_ok2 {M : Model} {A : Around} {E : Value → Shared → Prop} {i : Nat} {x : Str} {v : V} {u : Value} {Q : Unit → Shared → Prop} (I : Inv X pins σ H s) (hN : X.N.Nodup) (hi : X.N[i]? = some x) (hx : Loc X.env.scope x) (r : RelV v u)
    (h : ∀ s', Inv X pins (σ.set i (some v)) H s' → (∃ a, Heap.SameBut a s.heap s'.heap ∧ (a = X.env.locals ∨ X.env.cells.lookup x = some a)) → Q () s') (hf : X.fn x = true ∨ X.env.scope.names.lookup x = some .local := by first | exact .inl rfl | exact .inr rfl | assumption) : wpAny M A (storeName X.env x u) Q E s := by
  obtain ⟨m, hn, hl⟩ := id I.loc
  have hcls : (X.env.scope.kind == .class || (X.env.scope.kind == .module && X.env.locals != X.env.globals)) = false := by rw [I.ok.kind]; rfl
  have hiσ : i < σ.length := by rw [I.len]; exact (List.getElem?_eq_some_iff.mp hi).1
  have cne := I.cne
  have tracked : ∀ {a : Addr} {h' : Heap}, (∃ o, s.heap.get? a = some o ∧ H a = none) → Heap.SameBut a s.heap h' → HOk X.prog X.w H h' := fun {a h'} ha hs b ob e => by
    obtain ⟨_, _, hfree⟩ := ha
    refine (I.hok b ob e).stay (fun c w' hc q => (hs.2 c ?_).trans q) (fun _ q => q) fun _ _ q => q
    rintro rfl
    rcases hc with rfl | hc
    · rw [hfree] at e; cases e
    · rw [hfree] at hc; cases hc
  rcases hx with hk | hk
  · refine wpAny_storeName_local hk hn (fun h' hn' hs => ?_) hcls
    obtain ⟨oL, _, _, hoL, _⟩ := id hn
    refine h _ ⟨I.ok, I.os, I.bare, ⟨fun b o e n hb hx => ?_, fun b o e n hb hx => ?_, I.base.free, fun b o e hx => ?_, I.base.tups, I.base.frzs, I.base.tbls⟩, ⟨_, hn', fun j y v' e1 e2 e3 => ?_⟩, fun y c e => ?_, I.free, I.freeC, fun p hp => ?_, tracked ⟨oL, hoL, I.free⟩ hs, by simpa using I.len⟩ ⟨_, hs, .inl rfl⟩
    · exact (hs.2 b (Nat.ne_of_lt (Nat.lt_of_lt_of_le (Heap.lt_size e) I.ok.above))).trans (I.base.keep b o e n hb hx)
    · obtain ⟨sl, e1⟩ := I.base.slot b o e n hb hx
      exact ⟨sl, (hs.2 b (Nat.ne_of_lt (Nat.lt_of_lt_of_le (Heap.lt_size e) I.ok.above))).trans e1⟩
    · obtain ⟨o', e1⟩ := I.base.there b o e hx
      exact ⟨o', (hs.2 b (Nat.ne_of_lt (Nat.lt_of_lt_of_le (Heap.lt_size e) I.ok.above))).trans e1⟩
    · by_cases hj : j = i
      · subst hj
        rw [hi] at e1; cases e1
        rw [List.getElem?_set_self hiσ] at e2
        cases e2
        exact ⟨u, r, .inl ⟨hk, by simp⟩⟩
      · rw [List.getElem?_set_ne (Ne.symm hj)] at e2
        obtain ⟨u', r', q⟩ := hl j y v' e1 e2 e3
        refine ⟨u', r', ?_⟩
        rcases q with ⟨k, e⟩ | ⟨k, c, e, z⟩
        · refine .inl ⟨k, ?_⟩
          have : y ≠ x := fun e => hj (nodup_ix hN e1 (e ▸ hi))
          simp [this, e]
        · exact .inr ⟨k, c, e, z.sameBut hs (cne y c e)⟩
    · obtain ⟨w', z⟩ := I.cell y c e
      exact ⟨w', z.sameBut hs (cne y c e)⟩
    · obtain ⟨e, n, ne, nf, d⟩ := I.pin p hp
      exact ⟨(hs.2 p.1 ne).trans e, n, ne, nf, d⟩
  · have hfn : X.fn x = true := by
      rcases hf with z | z
      · exact z
      · rw [z] at hk; cases hk
    obtain ⟨c, hc⟩ := I.ok.has x (.inl hk)
    obtain ⟨w', z⟩ := I.cell x c hc
    refine wpAny_storeName_cell I.ok.kind hk hc z (fun h' hc' hs => ?_)
    obtain ⟨oc, hoc, hocd⟩ := id z
    refine h { s with heap := h' } ⟨I.ok, I.os, I.bare, ⟨fun b o e n hb hx => ?_, fun b o e n hb hx => ?_, I.base.free, fun b o e hx => ?_, I.base.tups, I.base.frzs, I.base.tbls⟩, ⟨m, hn.sameBut hs (Ne.symm (cne x c hc)), fun j y v' e1 e2 e3 => ?_⟩, fun y c' e => ?_, I.free, I.freeC, fun p hp => ?_, tracked ⟨oc, hoc, I.freeC x c hc⟩ hs, by simpa using I.len⟩ ⟨c, hs, .inr hc⟩
    · exact (hs.2 b (Nat.ne_of_lt (Nat.lt_of_lt_of_le (Heap.lt_size e) (I.ok.cab x c hfn hc)))).trans (I.base.keep b o e n hb hx)
    · obtain ⟨sl, e1⟩ := I.base.slot b o e n hb hx
      exact ⟨sl, (hs.2 b (Nat.ne_of_lt (Nat.lt_of_lt_of_le (Heap.lt_size e) (I.ok.cab x c hfn hc)))).trans e1⟩
    · obtain ⟨o', e1⟩ := I.base.there b o e hx
      exact ⟨o', (hs.2 b (Nat.ne_of_lt (Nat.lt_of_lt_of_le (Heap.lt_size e) (I.ok.cab x c hfn hc)))).trans e1⟩
    · by_cases hj : j = i
      · subst hj
        rw [hi] at e1; cases e1
        rw [List.getElem?_set_self hiσ] at e2
        cases e2
        exact ⟨u, r, .inr ⟨.inl hk, c, hc, hc'⟩⟩
      · rw [List.getElem?_set_ne (Ne.symm hj)] at e2
        obtain ⟨u', r', q⟩ := hl j y v' e1 e2 e3
        refine ⟨u', r', ?_⟩
        rcases q with q | ⟨k, c', e, z'⟩
        · exact .inl q
        · refine .inr ⟨k, c', e, z'.sameBut hs ?_⟩
          rintro rfl
          exact hj (nodup_ix hN e1 (I.ok.inj _ _ _ e hc ▸ hi))
    · by_cases hcc : c' = c
      · subst hcc; exact ⟨_, hc'⟩
      · obtain ⟨w2, z2⟩ := I.cell y c' e
        exact ⟨w2, z2.sameBut hs hcc⟩
    · obtain ⟨e, n, ne, nf, d⟩ := I.pin p hp
      refine ⟨(hs.2 p.1 ?_).trans e, n, ne, nf, d⟩
      intro q
      rw [q, hoc] at e
      have q' : oc = p.2 := Option.some.inj e
      exact d w' (by rw [← q']; exact hocd)
theorem store_ok {M : Model} {A : Around} {E : Value → Shared → Prop} {i : Nat} {x : Str} {v : V} {u : Value} {Q : Unit → Shared → Prop} (I : Inv X pins σ H s) (hN : X.N.Nodup) (hi : X.N[i]? = some x) (hx : Loc X.env.scope x) (r : RelV v u)
    (h : ∀ s', Inv X pins (σ.set i (some v)) H s' → Q () s') (hf : X.fn x = true ∨ X.env.scope.names.lookup x = some .local := by first | exact .inl rfl | exact .inr rfl | assumption) : wpAny M A (storeName X.env x u) Q E s :=
  store_ok2 I hN hi hx r (fun s' I' _ => h s' I') hf
/-- behind a call or a block, the state as it is -/
theorem Inv.call' {s' : Shared} {ch : List Addr} (I : Inv X pins σ H s) (ho : s'.os = s.os) (u : Un (frs X.stack) ch H H' s.heap s'.heap) (hok : HOk X.prog X.w H' s'.heap) (hg : AllBare s'.gens)
    (hch : ∀ b ∈ ch, (b ∈ X.ex ∨ X.s_0.heap.objs.size ≤ b) ∧ b ≠ X.env.locals ∧ (∀ x c, X.env.cells.lookup x = some c → c ≠ b) ∧ ∀ p ∈ X.pn ++ pins, p.1 ≠ b) : Inv X pins σ H' s' := by
  obtain ⟨h', g', d', t', o'⟩ := s'
  have e : o' = s.os := ho
  subst e
  exact I.call (g' := g') (t' := t') (d' := d') u hok hg hch
end

/-! ### the judgements -/
/-- an exception: its class, its own dict's address (where it has one), the abstract heap behind it -/
abbrev XK := Value → Option Addr → Hp → Prop
abbrev St := List (Option V)
abbrev VK := V → Hp → Prop
/-- an expression's reading; a test's; an argument list's -/
abbrev TE := St → Hp → VK → Prop
abbrev TT := St → Hp → (Bool → Hp → Prop) → Prop
abbrev TA := St → Hp → (List V → Hp → Prop) → Prop
/-- what is wanted behind a statement -/
structure Ends where
  nx : St → Hp → Prop
  rt : VK
  bk : St → Hp → Prop := fun _ _ => False
  ct : St → Hp → Prop := fun _ _ => False
abbrev TS := Ends → St → Hp → Prop

def EP (X : Cx) (pins : List (Addr × Obj)) (σ : St) (Q : VK) (u : Value) (s' : Shared) : Prop := ∃ v H', Inv X pins σ H' s' ∧ RelV v u ∧ Q v H'
def TP (X : Cx) (pins : List (Addr × Obj)) (σ : St) (Q : Bool → Hp → Prop) (b : Bool) (s' : Shared) : Prop := ∃ H', Inv X pins σ H' s' ∧ Q b H'
def AP (X : Cx) (pins : List (Addr × Obj)) (σ : St) (Q : List V → Hp → Prop) (us : List Value) (s' : Shared) : Prop := ∃ vs H', Inv X pins σ H' s' ∧ Vals vs us ∧ Q vs H'
def SP (X : Cx) (pins : List (Addr × Obj)) (D : Ends) (f : Flow) (s' : Shared) : Prop :=
  match f with
  | .next => ∃ σ' H', Inv X pins σ' H' s' ∧ D.nx σ' H'
  | .brk => ∃ σ' H', Inv X pins σ' H' s' ∧ D.bk σ' H'
  | .cont => ∃ σ' H', Inv X pins σ' H' s' ∧ D.ct σ' H'
  | .ret u => ∃ v σ' H', Inv X pins σ' H' s' ∧ RelV v u ∧ D.rt v H'

def PE (X : Cx) (e : Expr) (t : TE) : Prop :=
  ∀ (pins : List (Addr × Obj)) (s : Shared) (σ : St) (H : Hp) (Q : VK), Inv X pins σ H s → t σ H Q → wpAny (model X.prog X.w) X.A (eval e X.env) (EP X pins σ Q) X.xe s
def PT (X : Cx) (e : Expr) (t : TT) : Prop :=
  ∀ (pins : List (Addr × Obj)) (s : Shared) (σ : St) (H : Hp) (Q : Bool → Hp → Prop), Inv X pins σ H s → t σ H Q → wpAny (model X.prog X.w) X.A (isTrue e X.env (eval e X.env)) (TP X pins σ Q) X.xe s
/-- a test whatever its 'whole' is (and, or) -/
def PW (X : Cx) (e : Expr) (t : TT) : Prop :=
  ∀ (whole : Sem Value) (pins : List (Addr × Obj)) (s : Shared) (σ : St) (H : Hp) (Q : Bool → Hp → Prop), Inv X pins σ H s → t σ H Q → wpAny (model X.prog X.w) X.A (isTrue e X.env whole) (TP X pins σ Q) X.xe s
theorem PW.pt {X : Cx} {e : Expr} {t : TT} (h : PW X e t) : PT X e t := h _
/-- an argument list (no star), from the left -/
def PA (X : Cx) (es : List Expr) (t : TA) : Prop :=
  ∀ (pos : Pos) (pins : List (Addr × Obj)) (s : Shared) (σ : St) (H : Hp) (Q : List V → Hp → Prop), Inv X pins σ H s → t σ H Q → wpAny (model X.prog X.w) X.A (spliced (backTo pos (starEach es X.env))) (AP X pins σ Q) X.xe s
def PS (X : Cx) (st : Stmt) (t : TS) : Prop :=
  ∀ (pins : List (Addr × Obj)) (s : Shared) (σ : St) (H : Hp) (D : Ends), Inv X pins σ H s → t D σ H → wpAny (model X.prog X.w) X.A (exec st X.env) (SP X pins D) X.xe s
def PSs (X : Cx) (st : List Stmt) (t : TS) : Prop :=
  ∀ (pins : List (Addr × Obj)) (s : Shared) (σ : St) (H : Hp) (D : Ends), Inv X pins σ H s → t D σ H → wpAny (model X.prog X.w) X.A (execs st X.env) (SP X pins D) X.xe s
/-- weaken the end -/
theorem thn {α : Type} {t : Sem α} {Q Q' : α → Shared → Prop} {M : Model} {A : Around} {E : Value → Shared → Prop} {s : Shared} (h : wpAny M A t Q E s) (hQ : ∀ a s, Q a s → Q' a s) : wpAny M A t Q' E s := wpAny_mono h hQ fun _ _ x => x
end L2

namespace L2
open PySem PySem.Spec PyProof.Rows
section
variable {X : Cx}

/-- two expressions in a row -/
theorem bin {a b : Expr} {ta tb : TE} (ha : PE X a ta) (hb : PE X b tb) {pins : List (Addr × Obj)} {s : Shared} {σ : St} {H : Hp} {R : V → V → Hp → Prop} (I : Inv X pins σ H s) (h : ta σ H fun x H1 => tb σ H1 fun y H2 => R x y H2)
    {α : Type} {Q : α → Shared → Prop} {f : Value → Value → Sem α}
    (hf : ∀ v u s2 x y H2, Inv X pins σ H2 s2 → RelV x v → RelV y u → R x y H2 → wpAny (model X.prog X.w) X.A (f v u) Q X.xe s2) :
    wpAny (model X.prog X.w) X.A (eval a X.env) (fun v s₁ => wpAny (model X.prog X.w) X.A (eval b X.env) (fun u s₂ => wpAny (model X.prog X.w) X.A (f v u) Q X.xe s₂) X.xe s₁) X.xe s := by
  refine thn (ha pins s σ H _ I h) fun v s1 ⟨x, H1, I1, r1, q1⟩ => ?_
  refine thn (hb pins s1 σ H1 _ I1 q1) fun u s2 ⟨y, H2, I2, r2, q2⟩ => ?_
  exact hf v u s2 x y H2 I2 r1 r2 q2

/-! ### names and constants -/
def tVar (i : Nat) : TE := fun σ H Q => ∃ v, σ[i]? = some (some v) ∧ Q v H
def tC (v : V) : TE := fun _ H Q => Q v H
theorem pe_var {i : Nat} {x : Str} {pos : Pos} (hN : X.N[i]? = some x) (hv : Vis X.env.scope x) (hd : (x == ("__debug__" : Str)) = false := by decide) (hcd : (x == ("__classdict__" : Str)) = false := by decide) : PE X (.Name x pos) (tVar i) := by
  intro pins s σ H Q I h
  obtain ⟨v, e, h⟩ := h
  obtain ⟨m, hn, hl⟩ := I.loc
  obtain ⟨u, r, l⟩ := hl i x v hN e hv
  have fin : EP X pins σ Q u s := ⟨v, H, I, r, h⟩
  rcases l with ⟨hk, hm⟩ | ⟨hk, c, hc, hcell⟩
  · exact wpAny_Name (wpAny_loadName_local I.ok.kind hk hn hm fin) hd
  · rcases hk with hk | hk
    · exact wpAny_Name (wpAny_loadName_cell I.ok.kind hk hc hcell fin) hd
    · exact wpAny_Name (wpAny_loadName_free I.ok.kind hk hc hcell fin hcd) hd
theorem pe_int {i j pos} : PE X (.Constant (.int i) j pos) (tC (.int i)) := fun _ _ _ H _ I h => wpAny_Constant_int ⟨.int i, H, I.tok _, ⟨_, rfl⟩, h⟩
theorem pe_bl {b j pos} : PE X (.Constant (.bool b) j pos) (tC (.bl b)) := fun _ _ _ H _ I h => Constant_bool ⟨.bl b, H, I, rfl, h⟩
theorem pe_non {j pos} : PE X (.Constant .none j pos) (tC .non) := fun _ _ _ H _ I h => Constant_none ⟨.non, H, I, rfl, h⟩
theorem pe_str {x j pos} : PE X (.Constant (.str x) j pos) (tC (.str x)) := fun _ _ _ H _ I h => Calls.Constant_str ⟨.str x, H, I.tok _, ⟨_, rfl⟩, h⟩

/-- a global name of the def -/
def Gl (X : Cx) (x : Str) : Prop := X.env.kindOf x = some .globalImplicit
theorem ld_glob {E : Value → Shared → Prop} {pins : List (Addr × Obj)} {s : Shared} {σ : St} {H : Hp} {x : Str} {u : Value} {pos : Pos} {Q : Value → Shared → Prop} (I : Inv X pins σ H s) (hg : Gl X x) (hm : X.mg x = some u) (h : Q u s)
    (hd : (x == ("__debug__" : Str)) = false := by decide) : wpAny (model X.prog X.w) X.A (eval (.Name x pos) X.env) Q E s :=
  Calls.Name_function_global I.ok.kind hg (Calls.loadGlobal_global (by rw [I.ok.glob]; exact I.mod.glob.keeps I.bk) hm h) hd
theorem ld_blt {E : Value → Shared → Prop} {pins : List (Addr × Obj)} {s : Shared} {σ : St} {H : Hp} {x : Str} {u : Value} {pos : Pos} {Q : Value → Shared → Prop} (I : Inv X pins σ H s) (hg : Gl X x) (hm : X.mg x = none) (hv : bootBuiltins x = some u) (h : Q u s)
    (hn : x ≠ "__name__" := by decide) (hd : (x == ("__debug__" : Str)) = false := by decide) : wpAny (model X.prog X.w) X.A (eval (.Name x pos) X.env) Q E s := by
  obtain ⟨mb, h1, h2⟩ := I.mod.blt
  exact Calls.Name_function_global I.ok.kind hg (Calls.loadGlobal_builtin (by rw [I.ok.glob]; exact I.mod.glob.keeps I.bk) hm (by rw [I.ok.blt]; exact h1.keeps I.bk) ((h2 x hn).trans hv) h) hd
/-- a module's constant, a class, a function, as a value -/
theorem pe_glob {x : Str} {v : V} {u : Value} {pos : Pos} (hg : Gl X x) (hm : X.mg x = some u) (r : RelV v u) (hd : (x == ("__debug__" : Str)) = false := by decide) : PE X (.Name x pos) (tC v) :=
  fun _ _ _ H _ I h => ld_glob I hg hm ⟨v, H, I, r, h⟩ hd
theorem pe_bltn {x : Str} {v : V} {u : Value} {pos : Pos} (hg : Gl X x) (hm : X.mg x = none) (hv : bootBuiltins x = some u) (r : RelV v u) (hn : x ≠ "__name__" := by decide) (hd : (x == ("__debug__" : Str)) = false := by decide) : PE X (.Name x pos) (tC v) :=
  fun _ _ _ H _ I h => ld_blt I hg hm hv ⟨v, H, I, r, h⟩ hn hd

/-! ### arithmetic -/
/-- two ints -/
def t2I (ta tb : TE) (k : Int → Int → Hp → Prop) : St → Hp → Prop := fun σ H => ta σ H fun x H1 => tb σ H1 fun y H2 => ∃ i j, x = .int i ∧ y = .int j ∧ k i j H2
def tAdd (ta tb : TE) : TE := fun σ H Q => t2I ta tb (fun i j H2 => Q (.int (i + j)) H2) σ H
def tSub (ta tb : TE) : TE := fun σ H Q => t2I ta tb (fun i j H2 => Q (.int (i - j)) H2) σ H
/-- the left factor below 2^64 -/
def tMul (ta tb : TE) : TE := fun σ H Q => t2I ta tb (fun i j H2 => (-(2 ^ 64) < i ∧ i < 2 ^ 64) ∧ Q (.int (i * j)) H2) σ H
variable {a b : Expr} {ta tb : TE} {pos : Pos}
theorem pe_add (ha : PE X a ta) (hb : PE X b tb) : PE X (.BinOp a .Add b pos) (tAdd ta tb) := by
  intro pins s σ H Q I h
  refine wpAny_BinOp (bin ha hb I h fun v u s2 x y H2 I2 rx ry q => ?_)
  obtain ⟨i, j, rfl, rfl, q⟩ := q
  obtain ⟨t, rfl⟩ := rx
  obtain ⟨t', rfl⟩ := ry
  exact add_int ⟨.int _, H2, I2.tok _, ⟨_, rfl⟩, q⟩
theorem pe_sub (ha : PE X a ta) (hb : PE X b tb) : PE X (.BinOp a .Sub b pos) (tSub ta tb) := by
  intro pins s σ H Q I h
  refine wpAny_BinOp (bin ha hb I h fun v u s2 x y H2 I2 rx ry q => ?_)
  obtain ⟨i, j, rfl, rfl, q⟩ := q
  obtain ⟨t, rfl⟩ := rx
  obtain ⟨t', rfl⟩ := ry
  exact sub_int ⟨.int _, H2, I2.tok _, ⟨_, rfl⟩, q⟩
theorem pe_mul (ha : PE X a ta) (hb : PE X b tb) : PE X (.BinOp a .Mult b pos) (tMul ta tb) := by
  intro pins s σ H Q I h
  refine wpAny_BinOp (bin ha hb I h fun v u s2 x y H2 I2 rx ry q => ?_)
  obtain ⟨i, j, rfl, rfl, ⟨q1, q2⟩, q⟩ := q
  obtain ⟨t, rfl⟩ := rx
  obtain ⟨t', rfl⟩ := ry
  exact mul_int ⟨.int _, H2, I2.tok _, ⟨_, rfl⟩, q⟩ (.of_left (intBits_le_64 q1 q2))

/-! ### comparisons -/
def PC (X : Cx) (op : CmpOp) (a b : Expr) (t : TE) : Prop :=
  ∀ (pins : List (Addr × Obj)) (s : Shared) (σ : St) (H : Hp) (Q : VK), Inv X pins σ H s → t σ H Q →
    wpAny (model X.prog X.w) X.A (eval a X.env) (fun v s₁ => wpAny (model X.prog X.w) X.A (eval b X.env) (fun u s₂ => wpAny (model X.prog X.w) X.A (compareOp op v u) (EP X pins σ Q) X.xe s₂) X.xe s₁) X.xe s
theorem nobehind (b : Expr) {op : CmpOp} (h : op ≠ .In) (h2 : op ≠ .NotIn) : behindInMarks op b = false := by
  have e1 : (op == CmpOp.In) = false := by cases op <;> first | rfl | exact absurd rfl h
  have e2 : (op == CmpOp.NotIn) = false := by cases op <;> first | rfl | exact absurd rfl h2
  cases b <;> simp [behindInMarks, e1, e2]
def tCmp (p : Int → Int → Bool) (ta tb : TE) : TE := fun σ H Q => t2I ta tb (fun i j H2 => Q (.bl (p i j)) H2) σ H
abbrev tLt : TE → TE → TE := tCmp fun i j => decide (i < j)
abbrev tLe : TE → TE → TE := tCmp fun i j => decide (i ≤ j)
abbrev tGt : TE → TE → TE := tCmp fun i j => decide (j < i)
abbrev tGe : TE → TE → TE := tCmp fun i j => decide (j ≤ i)
abbrev tEqI : TE → TE → TE := tCmp fun i j => decide (i = j)
abbrev tNeI : TE → TE → TE := tCmp fun i j => !decide (i = j)
/-- a comparison of two ints, by its rule -/
theorem pc_int {op : CmpOp} {p : Int → Int → Bool} (ha : PE X a ta) (hb : PE X b tb)
    (rule : ∀ (i j : Int) (t u : Tok) (Q : Value → Shared → Prop) (s : Shared), Q (.bool (p i j)) s → wpAny (model X.prog X.w) X.A (compareOp op (.int i t) (.int j u)) Q X.xe s) : PC X op a b (tCmp p ta tb) := by
  intro pins s σ H Q I h
  refine bin ha hb I h fun v u s2 x y H2 I2 rx ry q => ?_
  obtain ⟨i, j, rfl, rfl, q⟩ := q
  obtain ⟨t, rfl⟩ := rx
  obtain ⟨t', rfl⟩ := ry
  exact rule i j t t' _ s2 ⟨.bl _, H2, I2, rfl, q⟩
theorem pc_lt (ha : PE X a ta) (hb : PE X b tb) : PC X .Lt a b (tLt ta tb) := pc_int ha hb fun _ _ _ _ _ _ h => lt_int h
theorem pc_le (ha : PE X a ta) (hb : PE X b tb) : PC X .LtE a b (tLe ta tb) := pc_int ha hb fun _ _ _ _ _ _ h => le_int h
theorem pc_gt (ha : PE X a ta) (hb : PE X b tb) : PC X .Gt a b (tGt ta tb) := pc_int ha hb fun _ _ _ _ _ _ h => gt_int h
theorem pc_ge (ha : PE X a ta) (hb : PE X b tb) : PC X .GtE a b (tGe ta tb) := pc_int ha hb fun _ _ _ _ _ _ h => ge_int h
theorem pc_eqI (ha : PE X a ta) (hb : PE X b tb) : PC X .Eq a b (tEqI ta tb) := pc_int ha hb fun _ _ _ _ _ _ h => eq_int (by rw [Bool.beq_eq_decide_eq]; exact h)
theorem pc_neI (ha : PE X a ta) (hb : PE X b tb) : PC X .NotEq a b (tNeI ta tb) := pc_int ha hb fun _ _ _ _ _ _ h => ne_int (by rw [bne, Bool.beq_eq_decide_eq]; exact h)
/-- is None -/
def tIsN (ta : TE) : TE := fun σ H Q => ta σ H fun x H1 => Q (.bl (decide (x = .non))) H1
def tNotN (ta : TE) : TE := fun σ H Q => ta σ H fun x H1 => Q (.bl (!decide (x = .non))) H1
theorem RelV.none_iff {x : V} {v : Value} (r : RelV x v) : (v == Value.none) = decide (x = .non) := by
  cases x with
  | non => cases r; rfl
  | bl _ => cases r; rfl
  | int _ => obtain ⟨t, rfl⟩ := r; rfl
  | str _ => obtain ⟨t, rfl⟩ := r; rfl
  | byt _ => obtain ⟨t, rfl⟩ := r; rfl
  | flt _ => obtain ⟨t, rfl⟩ := r; rfl
  | ref _ => cases r; rfl
  | ty _ => cases r; rfl
theorem pc_isN {j pos'} (ha : PE X a ta) : PC X .Is a (.Constant .none j pos') (tIsN ta) := by
  intro pins s σ H Q I h
  refine thn (ha pins s σ H _ I h) fun v s1 ⟨x, H1, I1, r1, q1⟩ => ?_
  exact Constant_none (is_none_gen ⟨.bl _, H1, I1, by rw [r1.none_iff]; rfl, q1⟩)
theorem pc_notN {j pos'} (ha : PE X a ta) : PC X .IsNot a (.Constant .none j pos') (tNotN ta) := by
  intro pins s σ H Q I h
  refine thn (ha pins s σ H _ I h) fun v s1 ⟨x, H1, I1, r1, q1⟩ => ?_
  exact Constant_none (isnot_none_gen ⟨.bl _, H1, I1, by rw [r1.none_iff]; rfl, q1⟩)
/-- a comparison as a value, as a test -/
def tB (t : TE) : TT := fun σ H Q => t σ H fun x H1 => ∃ c, x = .bl c ∧ Q c H1
theorem pe_cmp {op : CmpOp} {t : TE} (h : PC X op a b t) (h1 : behindInMarks op b = false := by first | exact nobehind _ (by decide) (by decide) | rfl) : PE X (.Compare a [op] [b] pos) t := fun pins s σ H Q I hw => wpAny_Compare1 (h pins s σ H Q I hw) h1
theorem pt_cmp {op : CmpOp} {t : TE} (h : PC X op a b t) (h1 : behindInMarks op b = false := by first | exact nobehind _ (by decide) (by decide) | rfl) : PT X (.Compare a [op] [b] pos) (tB t) := by
  intro pins s σ H Q I hw
  refine wpAny_isTrue_Compare1 (thn (h pins s σ H _ I hw) fun v s1 h1 => thn h1 fun u s2 h2 => thn h2 fun c s3 ⟨x, H1, I1, r1, q1⟩ => ?_) h1
  obtain ⟨d, rfl, q⟩ := q1
  cases r1
  exact wpAny_truthy_bool ⟨H1, I1, q⟩
/-- an expression whose value is a bool, as a test -/
theorem pt_val {e : Expr} {t : TE} (h : PE X e t) (he : ∀ whole, isTrue e X.env whole = (do let v ← whole; standAt e.pos; holding [v] (truthy v)) := by intro _; rfl) : PT X e (tB t) := by
  intro pins s σ H Q I hw
  refine isTrue_plain (thn (h pins s σ H _ I hw) fun v s1 ⟨x, H1, I1, r1, q1⟩ => ?_) (he _)
  obtain ⟨d, rfl, q⟩ := q1
  cases r1
  exact wpAny_truthy_bool ⟨H1, I1, q⟩

/-! ### and, or, not -/
variable {tA tB' : TT} {rest : List Expr}
def tAnd (t u : TT) : TT := fun σ H Q => t σ H fun c H1 => if c = true then u σ H1 Q else Q false H1
def tOr (t u : TT) : TT := fun σ H Q => t σ H fun c H1 => if c = true then Q true H1 else u σ H1 Q
def tNot (t : TT) : TT := fun σ H Q => t σ H fun c H1 => Q (!c) H1
theorem pw_and1 (ha : PT X a tA) : PW X (.BoolOp .And [a] pos) tA := by
  intro wh pins s σ H Q I h
  refine isTrue_and (thn (ha pins s σ H Q I h) fun c s1 e => ?_)
  cases c with
  | true => exact isTrue_and_nil e
  | false => exact e
theorem pw_or1 (ha : PT X a tA) : PW X (.BoolOp .Or [a] pos) tA := by
  intro wh pins s σ H Q I h
  refine isTrue_or (thn (ha pins s σ H Q I h) fun c s1 e => ?_)
  cases c with
  | false => exact isTrue_or_nil e
  | true => exact e
theorem pw_and (ha : PT X a tA) (hb : PW X (.BoolOp .And (b :: rest) pos) tB') : PW X (.BoolOp .And (a :: b :: rest) pos) (tAnd tA tB') := by
  intro wh pins s σ H Q I h
  refine isTrue_and (thn (ha pins s σ H _ I h) fun c s1 ⟨H1, I1, q1⟩ => ?_)
  cases c with
  | true => exact hb wh pins s1 σ H1 Q I1 q1
  | false => exact ⟨H1, I1, q1⟩
theorem pw_or (ha : PT X a tA) (hb : PW X (.BoolOp .Or (b :: rest) pos) tB') : PW X (.BoolOp .Or (a :: b :: rest) pos) (tOr tA tB') := by
  intro wh pins s σ H Q I h
  refine isTrue_or (thn (ha pins s σ H _ I h) fun c s1 ⟨H1, I1, q1⟩ => ?_)
  cases c with
  | true => exact ⟨H1, I1, q1⟩
  | false => exact hb wh pins s1 σ H1 Q I1 q1
theorem pt_not (ha : PT X a tA) : PT X (.UnaryOp .Not a pos) (tNot tA) := by
  intro pins s σ H Q I h
  exact isTrue_not (ha pins s σ H (fun c H1 => Q (!c) H1) I h)
/-- .. as values (bools) -/
def tAndV (ta tb : TE) : TE := fun σ H Q => ta σ H fun x H1 => ∃ c, x = .bl c ∧ if c = true then tb σ H1 Q else Q (.bl false) H1
def tOrV (ta tb : TE) : TE := fun σ H Q => ta σ H fun x H1 => ∃ c, x = .bl c ∧ if c = true then Q (.bl true) H1 else tb σ H1 Q
def tNotV (ta : TE) : TE := fun σ H Q => ta σ H fun x H1 => ∃ c, x = .bl c ∧ Q (.bl (!c)) H1
theorem pe_one {op} {t : TE} (h : PE X a t) : PE X (.BoolOp op [a] pos) t := fun pins s σ H Q I hw => BoolOp_one (h pins s σ H Q I hw)
theorem pe_and (ha : PE X a ta) (hb : PE X (.BoolOp .And (b :: rest) pos) tb) : PE X (.BoolOp .And (a :: b :: rest) pos) (tAndV ta tb) := by
  intro pins s σ H Q I h
  refine BoolOp_and (thn (ha pins s σ H _ I h) fun v s1 ⟨x, H1, I1, r1, q1⟩ => ?_)
  obtain ⟨c, rfl, q1⟩ := q1
  cases r1
  refine wpAny_truthy_bool ?_
  cases c with
  | true => exact hb pins s1 σ H1 Q I1 q1
  | false => exact ⟨.bl false, H1, I1, rfl, q1⟩
theorem pe_or (ha : PE X a ta) (hb : PE X (.BoolOp .Or (b :: rest) pos) tb) : PE X (.BoolOp .Or (a :: b :: rest) pos) (tOrV ta tb) := by
  intro pins s σ H Q I h
  refine BoolOp_or (thn (ha pins s σ H _ I h) fun v s1 ⟨x, H1, I1, r1, q1⟩ => ?_)
  obtain ⟨c, rfl, q1⟩ := q1
  cases r1
  refine wpAny_truthy_bool ?_
  cases c with
  | false => exact hb pins s1 σ H1 Q I1 q1
  | true => exact ⟨.bl true, H1, I1, rfl, q1⟩
theorem pe_not (ha : PE X a ta) : PE X (.UnaryOp .Not a pos) (tNotV ta) := by
  intro pins s σ H Q I h
  refine UnaryOp_ (thn (ha pins s σ H _ I h) fun v s1 ⟨x, H1, I1, r1, q1⟩ => ?_)
  obtain ⟨c, rfl, q1⟩ := q1
  cases r1
  exact not_of (wpAny_truthy_bool ⟨.bl (!c), H1, I1, rfl, q1⟩)
/-- a if t else b -/
def tIf (t : TT) (ta tb : TE) : TE := fun σ H Q => t σ H fun c H1 => if c = true then ta σ H1 Q else tb σ H1 Q
theorem pe_ifExp {c : Expr} (hc : PT X c tA) (ha : PE X a ta) (hb : PE X b tb) : PE X (.IfExp c a b pos) (tIf tA ta tb) := by
  intro pins s σ H Q I h
  refine wpAny_IfExp (thn (hc pins s σ H _ I h) fun d s1 ⟨H1, I1, q1⟩ => ?_)
  cases d with
  | true => exact ha pins s1 σ H1 Q I1 q1
  | false => exact hb pins s1 σ H1 Q I1 q1
end
end L2

namespace L2
open PySem PySem.Spec PyProof.Rows

/-! ### a list, a tuple that is read: tracked, frozen, or an object of the module -/
def SqL (K : PySem.W.Frag) (H : Hp) (a : Addr) (xs : List V) : Prop :=
  Rd H a (.lst xs) ∨
    ∃ (o : Obj) (its : Array Value) (n : Nat), K.lookup a = some o ∧ o.cls = .type "list" ∧ o.dict = none ∧ o.data = .seq its n ∧ its.size ≤ sizeLine ∧ Vals xs its.toList
def SqT (K : PySem.W.Frag) (H : Hp) (a : Addr) (xs : List V) : Prop :=
  Rd H a (.tup xs) ∨
    ∃ (o : Obj) (its : Array Value) (n : Nat), K.lookup a = some o ∧ o.cls = .type "tuple" ∧ o.data = .seq its n ∧ its.size ≤ sizeLine ∧ Vals xs its.toList
def absV : Value → Option V
  | .none => some .non
  | .bool b => some (.bl b)
  | .int i _ => some (.int i)
  | .str x _ => some (.str x)
  | .bytes b _ => some (.byt b)
  | .float b _ => some (.flt b)
  | .ref a => some (.ref a)
  | .type n => some (.ty n)
  | _ => none
theorem RelV.abs {x : V} {u : Value} (r : RelV x u) : absV u = some x := by
  cases x with
  | non => cases r; rfl
  | bl _ => cases r; rfl
  | int _ => obtain ⟨t, rfl⟩ := r; rfl
  | str _ => obtain ⟨t, rfl⟩ := r; rfl
  | byt _ => obtain ⟨t, rfl⟩ := r; rfl
  | flt _ => obtain ⟨t, rfl⟩ := r; rfl
  | ref _ => cases r; rfl
  | ty _ => cases r; rfl
theorem RelV.inj {x y : V} {u : Value} (r : RelV x u) (q : RelV y u) : x = y := Option.some.inj (r.abs.symm.trans q.abs)
theorem Vals.inj : ∀ {xs ys : List V} {us : List Value}, Vals xs us → Vals ys us → xs = ys
  | _, _, _, .nil, .nil => rfl
  | _, _, _, .cons r t, .cons r' t' => by rw [r.inj r', Vals.inj t t']
section
variable {X : Cx} {pins : List (Addr × Obj)} {σ : St} {H : Hp} {s : Shared} {a : Addr} {xs ys : List V}
theorem SqL.of {K : PySem.W.Frag} (h : H a = some (.lst xs)) : SqL K H a xs := .inl (.inl h)
theorem SqT.of {K : PySem.W.Frag} (h : H a = some (.tup xs)) : SqT K H a xs := .inl (.inl h)
theorem Inv.list (I : Inv X pins σ H s) (h : SqL X.K H a xs) : ∃ its : List Value, Vals xs its ∧ PlainL s.heap a its.toArray ∧ xs.length ≤ sizeLine := by
  rcases h with h | ⟨o, its, n, hk, hc, hd, hs, hz, r⟩
  · obtain ⟨z, its, n, r, e⟩ := h.ok I.hok
    exact ⟨its, r, ⟨_, n, e, rfl, rfl, rfl⟩, z⟩
  · refine ⟨its.toList, r, ⟨o, n, I.kIn a o hk, hc, hd, by simpa using hs⟩, ?_⟩
    have e := r.length
    simp only [Array.length_toList] at e
    omega
theorem Inv.tuple (I : Inv X pins σ H s) (h : SqT X.K H a xs) : ∃ its : List Value, Vals xs its ∧ IsTup s.heap a its.toArray ∧ xs.length ≤ sizeLine := by
  rcases h with h | ⟨o, its, n, hk, hc, hs, hz, r⟩
  · obtain ⟨z, its, r, p⟩ := h.ok I.hok
    exact ⟨its, r, p, z⟩
  · refine ⟨its.toList, r, ⟨o, I.kIn a o hk, hc, n, by simpa using hs⟩, ?_⟩
    have e := r.length
    simp only [Array.length_toList] at e
    omega
theorem Inv.list_inj (I : Inv X pins σ H s) (h : SqL X.K H a xs) (h' : SqL X.K H a ys) : xs = ys := by
  obtain ⟨its, r, ⟨o, n, e, _, _, d⟩, _⟩ := I.list h
  obtain ⟨its', r', ⟨o', n', e', _, _, d'⟩, _⟩ := I.list h'
  rw [e] at e'; cases e'
  rw [d] at d'
  injection d' with d1 _
  have : its = its' := by simpa using congrArg Array.toList d1
  subst this
  exact r.inj r'
theorem Inv.tuple_inj (I : Inv X pins σ H s) (h : SqT X.K H a xs) (h' : SqT X.K H a ys) : xs = ys := by
  obtain ⟨its, r, ⟨o, e, _, n, d⟩, _⟩ := I.tuple h
  obtain ⟨its', r', ⟨o', e', _, n', d'⟩, _⟩ := I.tuple h'
  rw [e] at e'; cases e'
  rw [d] at d'
  injection d' with d1 _
  have : its = its' := by simpa using congrArg Array.toList d1
  subst this
  exact r.inj r'
end

/-! ### another wish about exceptions -/
abbrev Cx.wish (X : Cx) (E : Value → Shared → Prop) : Cx := { X with xe := E }
/-- no exception leaves -/
abbrev Cx.nox (X : Cx) : Cx := X.wish fun _ _ => False
theorem Cx.Ok.wish {X : Cx} (ok : X.Ok) (E : Value → Shared → Prop) : (X.wish E).Ok :=
  ⟨ok.mod, ok.kind, ok.glob, ok.blt, ok.above, ok.inj, ok.has, ok.cab, ok.hd, ok.frames, ok.stk, ok.exf, ok.bs, ok.bsz, ok.noex, ok.exfs, ok.funs, ok.frf⟩
theorem Cx.Ok.unwish {X : Cx} {E : Value → Shared → Prop} (ok : (X.wish E).Ok) : X.Ok :=
  ⟨ok.mod, ok.kind, ok.glob, ok.blt, ok.above, ok.inj, ok.has, ok.cab, ok.hd, ok.frames, ok.stk, ok.exf, ok.bs, ok.bsz, ok.noex, ok.exfs, ok.funs, ok.frf⟩
section
variable {X : Cx} {pins : List (Addr × Obj)} {σ : St} {H : Hp} {s : Shared} {E : Value → Shared → Prop}
theorem Inv.wish (I : Inv X pins σ H s) (E : Value → Shared → Prop) : Inv (X.wish E) pins σ H s := ⟨I.ok.wish E, I.os, I.bare, I.base, I.loc, I.cell, I.free, I.freeC, I.pin, I.hok, I.len⟩
theorem Inv.unwish (I : Inv (X.wish E) pins σ H s) : Inv X pins σ H s := ⟨I.ok.unwish, I.os, I.bare, I.base, I.loc, I.cell, I.free, I.freeC, I.pin, I.hok, I.len⟩
theorem SP.unwish {D : Ends} {f : Flow} {s' : Shared} (h : SP (X.wish E) pins D f s') : SP X pins D f s' := by
  cases f with
  | next => obtain ⟨σ', H', I, q⟩ := h; exact ⟨σ', H', I.unwish, q⟩
  | brk => obtain ⟨σ', H', I, q⟩ := h; exact ⟨σ', H', I.unwish, q⟩
  | cont => obtain ⟨σ', H', I, q⟩ := h; exact ⟨σ', H', I.unwish, q⟩
  | ret u => obtain ⟨v, σ', H', I, r, q⟩ := h; exact ⟨v, σ', H', I.unwish, r, q⟩
theorem PE.nox {e : Expr} {t : TE} (h : PE X.nox e t) : PE X e t := fun pins s σ H Q I hw =>
  wpAny_mono (h pins s σ H Q (I.wish _) hw) (fun _ _ ⟨v, H', I', r, q⟩ => ⟨v, H', I'.unwish, r, q⟩) fun _ _ z => False.elim z
theorem PT.nox {e : Expr} {t : TT} (h : PT X.nox e t) : PT X e t := fun pins s σ H Q I hw =>
  wpAny_mono (h pins s σ H Q (I.wish _) hw) (fun _ _ ⟨H', I', q⟩ => ⟨H', I'.unwish, q⟩) fun _ _ z => False.elim z
theorem PSs.nox {st : List Stmt} {t : TS} (h : PSs X.nox st t) : PSs X st t := fun pins s σ H D I hw =>
  wpAny_mono (h pins s σ H D (I.wish _) hw) (fun _ _ q => q.unwish) fun _ _ z => False.elim z
end

/-! ### blocks and small statements -/
section
variable {X : Cx} {st : Stmt} {rest : List Stmt} {t u : TS} {e : Expr} {te : TE} {pos : Pos}
def tNext : TS := fun D σ H => D.nx σ H
def tSeq (t u : TS) : TS := fun D σ H => t { D with nx := u D } σ H
theorem pss_nil : PSs X [] tNext := fun _ _ σ H _ I h => wpAny_execs_nil ⟨σ, H, I, h⟩
theorem pss_cons (h1 : PS X st t) (h2 : PSs X rest u) : PSs X (st :: rest) (tSeq t u) := by
  intro pins s σ H D I h
  refine wpAny_execs_cons (thn (h1 pins s σ H { D with nx := u D } I h) fun f s1 q => ?_)
  cases f with
  | next =>
    obtain ⟨σ', H', I', q⟩ := q
    exact h2 pins s1 σ' H' D I' q
  | ret v => exact q
  | brk => exact q
  | cont => exact q
theorem pss_one (h1 : PS X st t) : PSs X [st] t := by
  intro pins s σ H D I h
  refine wpAny_execs_cons (thn (h1 pins s σ H D I h) fun f s1 q => ?_)
  cases f with
  | next => exact wpAny_execs_nil q
  | ret v => exact q
  | brk => exact q
  | cont => exact q
def tBreak : TS := fun D σ H => D.bk σ H
def tCont : TS := fun D σ H => D.ct σ H
theorem ps_pass : PS X (.Pass pos) tNext := fun _ _ σ H _ I h => wpAny_Pass ⟨σ, H, I, h⟩
theorem ps_break : PS X (.Break pos) tBreak := fun _ _ σ H _ I h => wpAny_Break ⟨σ, H, I, h⟩
theorem ps_continue : PS X (.Continue pos) tCont := fun _ _ σ H _ I h => wpAny_Continue ⟨σ, H, I, h⟩
/-- in a def's body nothing is shown -/
theorem Inv.quiet {pins : List (Addr × Obj)} {σ : St} {H : Hp} {s : Shared} (I : Inv X pins σ H s) : interactive X.env = false := by simp [interactive, I.ok.kind]
/-- a docstring -/
theorem ps_doc {x j pos pos'} : PS X (.Expr (.Constant (.str x) j pos) pos') tNext := fun _ s σ H _ I h => wpAny_Expr (Calls.Constant_str (show SP X _ _ .next { s with toks := s.toks + 1 } from ⟨σ, H, I.tok _, h⟩)) I.quiet
/-- an expression whose value is dropped -/
def tDrop (te : TE) : TS := fun D σ H => te σ H fun _ H1 => D.nx σ H1
theorem ps_expr (he : PE X e te) (hs : swapsWith e none pos.line X.env = pure false := by rfl) : PS X (.Expr e pos) (tDrop te) := by
  intro pins s σ H D I h
  exact wpAny_Expr_any (thn (he pins s σ H _ I h) fun v s1 ⟨x, H1, I1, r1, q1⟩ => ⟨σ, H1, I1, q1⟩) I.quiet hs
def tRet (te : TE) : TS := fun D σ H => te σ H D.rt
theorem ps_ret (he : PE X e te) : PS X (.Return (some e) pos) (tRet te) := by
  intro pins s σ H D I h
  exact wpAny_Return_some (thn (he pins s σ H _ I h) fun v s1 ⟨x, H1, I1, r1, q1⟩ => ⟨x, σ, H1, I1, r1, q1⟩)
def tRetN : TS := fun D _ H => D.rt .non H
theorem ps_retN : PS X (.Return none pos) tRetN := fun _ _ σ H _ I h => wpAny_Return_none ⟨.non, σ, H, I, rfl, h⟩
def tIfS (c : TT) (t u : TS) : TS := fun D σ H => c σ H fun b H1 => if b = true then t D σ H1 else u D σ H1
theorem ps_if {c : Expr} {a b : List Stmt} {tc : TT} (hc : PT X c tc) (ha : PSs X a t) (hb : PSs X b u) : PS X (.If c a b pos) (tIfS tc t u) := by
  intro pins s σ H D I h
  refine wpAny_If (thn (hc pins s σ H _ I h) fun d s1 ⟨H1, I1, q1⟩ => ?_)
  cases d with
  | true => exact ha pins s1 σ H1 D I1 q1
  | false => exact hb pins s1 σ H1 D I1 q1
/-- code that the proof never comes to -/
def tNever : TS := fun _ _ _ => False
theorem ps_never : PS X st tNever := fun _ _ _ _ _ _ h => h.elim
theorem pss_never {sts : List Stmt} : PSs X sts tNever := fun _ _ _ _ _ _ h => h.elim
end

/-! ### targets -/
abbrev TG := V → St → Hp → (St → Hp → Prop) → Prop
abbrev TGs := List V → St → Hp → (St → Hp → Prop) → Prop
def PG (X : Cx) (target : Expr) (t : TG) : Prop :=
  ∀ (pins : List (Addr × Obj)) (s : Shared) (σ : St) (H : Hp) (v : V) (u : Value) (Q : St → Hp → Prop), Inv X pins σ H s → RelV v u → t v σ H Q →
    wpAny (model X.prog X.w) X.A (assign target X.env u) (fun _ s' => ∃ σ' H', Inv X pins σ' H' s' ∧ Q σ' H') X.xe s
/-- several targets, one after another -/
def PGs (X : Cx) (ts : List Expr) (t : TGs) : Prop :=
  ∀ (pins : List (Addr × Obj)) (s : Shared) (σ : St) (H : Hp) (vs : List V) (us : List Value) (Q : St → Hp → Prop), Inv X pins σ H s → Vals vs us → t vs σ H Q →
    wpAny (model X.prog X.w) X.A (assignInOrder ((assignEach ts X.env).map (·.2)) us) (fun _ s' => ∃ σ' H', Inv X pins σ' H' s' ∧ Q σ' H') X.xe s
/-- o[i] = v, by values -/
abbrev TSet := V → V → V → Hp → (Hp → Prop) → Prop
def PSet (X : Cx) (t : TSet) : Prop :=
  ∀ (pins : List (Addr × Obj)) (s : Shared) (σ : St) (H : Hp) (o i v : V) (ov iv u : Value) (Q : Hp → Prop), Inv X pins σ H s → RelV o ov → RelV i iv → RelV v u → t o i v H Q →
    wpAny (model X.prog X.w) X.A (setItem ov iv u) (fun _ s' => ∃ H', Inv X pins σ H' s' ∧ Q H') X.xe s
/-- a op= b, by values -/
abbrev TIp := V → V → Hp → VK → Prop
def PIp (X : Cx) (op : Operator) (t : TIp) : Prop :=
  ∀ (pins : List (Addr × Obj)) (s : Shared) (σ : St) (H : Hp) (x y : V) (v u : Value) (Q : VK), Inv X pins σ H s → RelV x v → RelV y u → t x y H Q →
    wpAny (model X.prog X.w) X.A (inplaceOp op v u) (EP X pins σ Q) X.xe s
section
variable {X : Cx} {pos : Pos}
def gName (i : Nat) : TG := fun v σ H Q => Q (σ.set i (some v)) H
theorem pg_name {i : Nat} {x : Str} (hN : X.N.Nodup) (hi : X.N[i]? = some x) (hx : Loc X.env.scope x) (hf : X.fn x = true ∨ X.env.scope.names.lookup x = some .local := by first | exact .inl rfl | exact .inr rfl | assumption) : PG X (.Name x pos) (gName i) := by
  intro pins s σ H v u Q I r h
  exact wpAny_assign_Name (store_ok I hN hi hx r (fun s' I' => ⟨_, H, I', h⟩) hf)
def gNil : TGs := fun vs σ H Q => vs = [] ∧ Q σ H
def gCons (t : TG) (u : TGs) : TGs := fun vs σ H Q => ∃ v r, vs = v :: r ∧ t v σ H fun σ' H' => u r σ' H' Q
theorem pgs_nil : PGs X [] gNil := by
  intro pins s σ H vs us Q I r h
  obtain ⟨e, h⟩ := h
  subst e
  cases r
  exact assignInOrder_nil ⟨σ, H, I, h⟩
theorem pgs_cons {e : Expr} {es : List Expr} {t : TG} {u : TGs} (h1 : PG X e t) (h2 : PGs X es u)
    (hs : (assignEach (e :: es) X.env).map (·.2) = assign e X.env :: (assignEach es X.env).map (·.2) := by rfl) : PGs X (e :: es) (gCons t u) := by
  intro pins s σ H vs us Q I r h
  obtain ⟨v, vr, e1, h⟩ := h
  subst e1
  cases r with
  | cons r rr =>
    rw [hs]
    refine assignInOrder_cons (thn (h1 pins s σ H _ _ _ I r h) fun _ s1 ⟨σ1, H1, I1, q1⟩ => ?_)
    exact h2 pins s1 σ1 H1 _ _ Q I1 rr q1
/-- (a, b, ..) = a tuple of that length -/
def gTup (K : PySem.W.Frag) (n : Nat) (t : TGs) : TG := fun v σ H Q => ∃ a xs, v = .ref a ∧ SqT K H a xs ∧ xs.length = n ∧ t xs σ H Q
theorem pg_tup {es : List Expr} {k : Nat} {t : TGs} {n : Nat} (hc : X.calm = true) (h : PGs X es t)
    (hn : (assignEach es X.env).length = n := by rfl) (hst : (assignEach es X.env).findIdx? (·.1) = none := by rfl) : PG X (.Tuple es k pos) (gTup X.K n t) := by
  intro pins s σ H v u Q I r hw
  obtain ⟨a, xs, e1, hq, hl, hw⟩ := hw
  subst e1
  cases r
  obtain ⟨its, rv, ht, hz⟩ := I.tuple hq
  refine assign_Tuple_tuple (I.ok.hd hc) ht (by simp [hn, ← hl, rv.length]) hst fun h' hx => ?_
  have I1 : Inv X pins σ H { s with heap := h' } := I.kept (t' := s.toks) fun b o e => hx b o (Nat.ne_of_lt (Heap.lt_size e)) e
  exact h pins _ σ H xs _ Q I1 (by simpa using rv) hw
/-- o[i] = .. -/
def gSub (to ti : TE) (t : TSet) : TG := fun v σ H Q => to σ H fun o H1 => ti σ H1 fun i H2 => t o i v H2 fun H3 => Q σ H3
theorem pg_sub {o i : Expr} {to ti : TE} {t : TSet} (ho : PE X o to) (hi : PE X i ti) (hs : PSet X t)
    (ha : ∀ v, assign (.Subscript o i pos) X.env v = (do
      let ov ← holding [v] (eval o X.env)
      let iv ← holding [v, ov] (eval i X.env)
      standAt pos
      holding [v, ov, iv] (setItem ov iv v)
      release [v, ov, iv] []) := by intro _; rfl) : PG X (.Subscript o i pos) (gSub to ti t) := by
  intro pins s σ H v u Q I r h
  rw [ha]
  refine wpAny_bind (wpAny_holding (thn (ho pins s σ H _ I h) fun ov s1 ⟨x, H1, I1, r1, q1⟩ => ?_))
  refine wpAny_bind (wpAny_holding (thn (hi pins s1 σ H1 _ I1 q1) fun iv s2 ⟨y, H2, I2, r2, q2⟩ => ?_))
  refine wpAny_bind (wpAny_standAt (wpAny_bind (wpAny_holding (thn (hs pins s2 σ H2 x y v ov iv u _ I2 r1 r2 r q2) fun _ s3 ⟨H3, I3, q3⟩ => ?_))))
  exact wpAny_release ⟨σ, H3, I3, q3⟩
/-- target = value -/
def tAsg (te : TE) (g : TG) : TS := fun D σ H => te σ H fun x H1 => g x σ H1 D.nx
theorem ps_asg {tg e : Expr} {te : TE} {g : TG} (he : PE X e te) (hg : PG X tg g) (hs : swapsWithSole [tg] e pos.line X.env = pure false := by rfl) (hw : swappedStores [tg] e X.env = pure none := by rfl)
    (h1 : (assignEach [tg] X.env).map (·.2) = [assign tg X.env] := by rfl) : PS X (.Assign [tg] e pos) (tAsg te g) := by
  intro pins s σ H D I h
  refine wpAny_Assign_stores (thn (he pins s σ H _ I h) fun v s1 ⟨x, H1, I1, r1, q1⟩ => ?_) hs hw
  rw [h1]
  exact thn (hg pins s1 σ H1 x v _ I1 r1 q1) fun _ s2 q => q
/-- name = value -/
theorem ps_set {i : Nat} {x : Str} {e : Expr} {te : TE} {pos' : Pos} (hN : X.N.Nodup) (hi : X.N[i]? = some x) (hx : Loc X.env.scope x) (he : PE X e te) (hs : swapsWith e (some (.Name x pos')) pos.line X.env = pure false := by rfl) (hf : X.fn x = true ∨ X.env.scope.names.lookup x = some .local := by first | exact .inl rfl | exact .inr rfl | assumption) :
    PS X (.Assign [.Name x pos'] e pos) (tAsg te (gName i)) := by
  intro pins s σ H D I h
  refine wpAny_Assign_Name (thn (he pins s σ H _ I h) fun v s1 ⟨y, H1, I1, r1, q1⟩ => ?_) hs
  exact store_ok I1 hN hi hx r1 (fun s2 I2 => ⟨_, H1, I2, q1⟩) hf
/-- a, b = x, y with plain local names: stored from the right; the pair itself is not tracked (the opening rows as in PyProof/Rows/TupAssign.lean:23) -/
def tPar (i j : Nat) (ta : TA) : TS := fun D σ H => ta σ H fun vs H1 => ∃ v w, vs = [v, w] ∧ D.nx ((σ.set i (some v)).set j (some w)) H1
theorem ps_par {i j : Nat} {x y : Str} {a b : Expr} {ta : TA} {px py pt : Pos} {kt k2 pt2} (hc : X.calm = true) (hN : X.N.Nodup) (hi : X.N[i]? = some x) (hj : X.N[j]? = some y) (hij : i ≠ j)
    (hx : X.env.scope.names.lookup x = some .local) (hy : X.env.scope.names.lookup y = some .local) (ha : PA X [a, b] ta)
    (hw : swappedStores [.Tuple [.Name x px, .Name y py] kt pt] (.Tuple [a, b] k2 pt2) X.env = pure (some [x, y]))
    (hs : swapsWithSole [.Tuple [.Name x px, .Name y py] kt pt] (.Tuple [a, b] k2 pt2) pos.line X.env = pure false := by rfl) :
    PS X (.Assign [.Tuple [.Name x px, .Name y py] kt pt] (.Tuple [a, b] k2 pt2) pos) (tPar i j ta) := by
  intro pins s σ H D I h
  rw [exec_Assign_arm]
  refine wpAny_bind (wpAny_standAt ?_)
  rw [hs]
  refine wpAny_bind (wpAny_pure ?_)
  rw [if_neg (by decide)]
  refine wpAny_bind (Tuple_ (thn (ha _ pins s σ H _ I h) fun us s1 ⟨vs, H1, I1, r1, q1⟩ => ?_))
  obtain ⟨v, w, e1, q1⟩ := q1
  subst e1
  obtain ⟨u1, u2, rfl, rv, rw'⟩ : ∃ u1 u2, us = [u1, u2] ∧ RelV v u1 ∧ RelV w u2 := by
    cases r1 with
    | cons p q =>
      cases q with
      | cons p' q' =>
        cases q'
        exact ⟨_, _, rfl, p, p'⟩
  refine wpAny_newObj_type ?_ (by show 2 ≤ sizeLine; decide)
  have I2 : Inv X pins σ H1 { s1 with heap := s1.heap.push { cls := .type "tuple", data := .seq [u1, u2].toArray } } := I1.kept (t' := s1.toks) fun b o e => Heap.get?_push_of_some _ e
  rw [hw]
  refine wpAny_bind (wpAny_pure ?_)
  show wpAny (model X.prog X.w) X.A (do rule "assign.swapped-stores"; let items ← unpackItems (.ref s1.heap.objs.size) 2 none; assignInOrder [fun v => bindName X.env y v, fun v => bindName X.env x v] items.reverse; pure Flow.next) _ _ _
  refine wpAny_bind (wpAny_rule (wpAny_bind (unpackItems_tuple (items := #[u1, u2]) (I.ok.hd hc) (IsTup.new s1.heap _) fun h' hx' => ?_)))
  have I3 := I2.kept (h' := h') (t' := s1.toks) fun b o e => hx' b o (Nat.ne_of_lt (Heap.lt_size e)) e
  show wpAny _ _ (assignInOrder [fun v => bindName X.env y v, fun v => bindName X.env x v] [u2, u1] >>= fun _ => pure Flow.next) _ _ _
  refine wpAny_bind (assignInOrder_cons (wpAny_bindName (store_ok I3 hN hj (.inl hy) rw' (fun s2 I4 => ?_) (.inr hy))))
  refine assignInOrder_cons (wpAny_bindName (store_ok I4 hN hi (.inl hx) rv (fun s3 I5 => assignInOrder_nil (wpAny_pure ?_)) (.inr hx)))
  rw [List.set_comm _ _ (Ne.symm hij)] at I5
  exact ⟨_, H1, I5, q1⟩
/-- name op= e -/
def tAug (i : Nat) (te : TE) (ti : TIp) : TS := fun D σ H => ∃ x, σ[i]? = some (some x) ∧ te σ H fun y H1 => ti x y H1 fun z H2 => D.nx (σ.set i (some z)) H2
theorem ps_aug {i : Nat} {x : Str} {e : Expr} {te : TE} {op : Operator} {ti : TIp} {pos' : Pos} (hN : X.N.Nodup) (hi : X.N[i]? = some x) (hx : Loc X.env.scope x) (he : PE X e te) (ho : PIp X op ti) (hf : X.fn x = true ∨ X.env.scope.names.lookup x = some .local := by first | exact .inl rfl | exact .inr rfl | assumption) :
    PS X (.AugAssign (.Name x pos') op e pos) (tAug i te ti) := by
  intro pins s σ H D I h
  obtain ⟨v, e1, h⟩ := h
  obtain ⟨m, hn, hl⟩ := I.loc
  have vis : Vis X.env.scope x := by rcases hx with k | k; exact .inl k; exact .inr (.inl k)
  obtain ⟨u, r, l⟩ := hl i x v hi e1 vis
  refine wpAny_AugAssign_Name ?_
  have go : wpAny (model X.prog X.w) X.A (eval e X.env) (fun w s₂ => wpAny (model X.prog X.w) X.A (inplaceOp op u w) (fun r s₃ => wpAny (model X.prog X.w) X.A (storeName X.env x r) (fun _ => SP X pins D .next) X.xe s₃) X.xe s₂) X.xe s := by
    refine thn (he pins s σ H _ I h) fun w s1 ⟨y, H1, I1, r1, q1⟩ => ?_
    refine thn (ho pins s1 σ H1 v y u w _ I1 r r1 q1) fun z s2 ⟨zv, H2, I2, r2, q2⟩ => ?_
    exact store_ok I2 hN hi hx r2 (fun s3 I3 => ⟨_, H2, I3, q2⟩) hf
  rcases l with ⟨hk, hm⟩ | ⟨hk, c, hc, hcell⟩
  · exact wpAny_loadName_local I.ok.kind hk hn hm go
  · rcases hk with hk | hk
    · exact wpAny_loadName_cell I.ok.kind hk hc hcell go
    · rcases hx with k | k
      · have : X.env.scope.names.lookup x = some .free := hk
        rw [k] at this; cases this
      · have : X.env.scope.names.lookup x = some .free := hk
        rw [k] at this; cases this
/-- o[i] op= e -/
def tAugS (to ti te : TE) (tget : V → V → Hp → VK → Prop) (tip : TIp) (tset : TSet) : TS := fun D σ H => to σ H fun o H1 => ti σ H1 fun i H2 => tget o i H2 fun x H3 => te σ H3 fun y H4 => tip x y H4 fun z H5 => tset o i z H5 fun H6 => D.nx σ H6
/-- o[i], by values -/
def PGet (X : Cx) (t : V → V → Hp → VK → Prop) : Prop :=
  ∀ (pins : List (Addr × Obj)) (s : Shared) (σ : St) (H : Hp) (o i : V) (ov iv : Value) (Q : VK), Inv X pins σ H s → RelV o ov → RelV i iv → t o i H Q →
    wpAny (model X.prog X.w) X.A (getItem ov iv) (EP X pins σ Q) X.xe s
theorem ps_augS {o i e : Expr} {to ti te : TE} {tget : V → V → Hp → VK → Prop} {tip : TIp} {tset : TSet} {op : Operator} {tpos : Pos} (ho : PE X o to) (hi : PE X i ti) (hg : PGet X tget) (he : PE X e te) (hp : PIp X op tip) (hs : PSet X tset)
    (ha : ∀ ov iv new, augStore i ov iv new = (do holding [new, ov, iv] (setItem ov iv new); release [new, ov, iv] []; pure .next) := by intros; rfl) : PS X (.AugAssign (.Subscript o i tpos) op e pos) (tAugS to ti te tget tip tset) := by
  intro pins s σ H D I h
  refine wpAny_AugAssign_SubscriptAny (thn (ho pins s σ H _ I h) fun ov s1 ⟨x1, H1, I1, r1, q1⟩ => ?_) ha
  refine thn (hi pins s1 σ H1 _ I1 q1) fun iv s2 ⟨x2, H2, I2, r2, q2⟩ => ?_
  refine thn (hg pins s2 σ H2 x1 x2 ov iv _ I2 r1 r2 q2) fun old s3 ⟨x3, H3, I3, r3, q3⟩ => ?_
  refine thn (he pins s3 σ H3 _ I3 q3) fun v s4 ⟨x4, H4, I4, r4, q4⟩ => ?_
  refine thn (hp pins s4 σ H4 x3 x4 old v _ I4 r3 r4 q4) fun new s5 ⟨x5, H5, I5, r5, q5⟩ => ?_
  exact thn (hs pins s5 σ H5 x1 x2 x5 ov iv new _ I5 r1 r2 r5 q5) fun _ s6 ⟨H6, I6, q6⟩ => ⟨σ, H6, I6, q6⟩
/-- ints -/
def ipI (f : Int → Int → Int) : TIp := fun x y H Q => ∃ i j, x = .int i ∧ y = .int j ∧ Q (.int (f i j)) H
theorem ip_add : PIp X .Add (ipI fun i j => i + j) := by
  intro pins s σ H x y v u Q I r1 r2 h
  obtain ⟨i, j, e1, e2, q⟩ := h
  subst e1; subst e2
  obtain ⟨t, rfl⟩ := r1
  obtain ⟨t', rfl⟩ := r2
  exact iadd_int ⟨.int _, H, I.tok _, ⟨_, rfl⟩, q⟩
theorem ip_sub : PIp X .Sub (ipI fun i j => i - j) := by
  intro pins s σ H x y v u Q I r1 r2 h
  obtain ⟨i, j, e1, e2, q⟩ := h
  subst e1; subst e2
  obtain ⟨t, rfl⟩ := r1
  obtain ⟨t', rfl⟩ := r2
  exact isub_int ⟨.int _, H, I.tok _, ⟨_, rfl⟩, q⟩
end

/-! ### while -/
section
variable {X : Cx} {pos : Pos}
/-- the invariant W with its measure -/
def tWhile (c : TT) (tb : TS) : TS := fun D σ H => ∃ W : Nat → St → Hp → Prop, (∃ m, W m σ H) ∧ ∀ m σ H, W m σ H →
  c σ H fun b H1 => if b = true then ∃ N : St → Hp → Prop, (∀ σ' H', N σ' H' → ∃ m', m' < m ∧ W m' σ' H') ∧ tb { D with nx := N, ct := N, bk := D.nx } σ H1 else D.nx σ H1
theorem ps_while {c : Expr} {body : List Stmt} {tc : TT} {tb : TS} (hp : PassesOwn (model X.prog X.w) X.A X.env X.xe) (hc : PT X c tc) (hb : PSs X body tb) : PS X (.While c body [] pos) (tWhile tc tb) := by
  intro pins s σ H D I h
  obtain ⟨W, ⟨m0, w0⟩, turn⟩ := h
  refine wpAny_While (codeAny_whileLoop (fun n s' => ∃ σ' H', Inv X pins σ' H' s' ∧ W n σ' H') ?_ m0 ⟨σ, H, I, w0⟩)
  rintro n s1 ⟨σ1, H1, I1, w1⟩
  refine wpAny_passesOwn hp (thn (hc pins s1 σ1 H1 _ I1 (turn n σ1 H1 w1)) fun b s2 ⟨H2, I2, q2⟩ => ?_)
  cases b with
  | true =>
    obtain ⟨N, hN, q2⟩ := q2
    rw [if_pos rfl]
    refine wpAny_passesOwn hp (thn (hb pins s2 σ1 H2 _ I2 q2) fun f s3 q3 => ?_)
    cases f with
    | next =>
      obtain ⟨σ3, H3, I3, n3⟩ := q3
      obtain ⟨m', hm, w3⟩ := hN σ3 H3 n3
      exact ⟨m', hm, σ3, H3, I3, w3⟩
    | cont =>
      obtain ⟨σ3, H3, I3, n3⟩ := q3
      obtain ⟨m', hm, w3⟩ := hN σ3 H3 n3
      exact ⟨m', hm, σ3, H3, I3, w3⟩
    | brk => exact q3
    | ret v => exact q3
  | false =>
    rw [if_neg Bool.false_ne_true]
    exact wpAny_execs_nil ⟨σ1, H2, I2, q2⟩
end

/-! ### what a loop or a comprehension walks -/
/-- at turn i: it yields x (the heap may grow), or it stops -/
structure It where
  go : Nat → Hp → Prop
  yld : Nat → Hp → V → Hp → Prop
  stop : Nat → Hp → Prop
/-- the iterator's own objects may turn: they are not the frame's, not pinned, younger than the entry (or a comprehension's own) -/
def FpOk (X : Cx) (pins : List (Addr × Obj)) (H : Hp) (b : Addr) : Prop :=
  H b = none ∧ b ≠ X.env.locals ∧ b ∉ X.fs ∧ (b ∈ X.ex ∨ X.s_0.heap.objs.size ≤ b) ∧ (∀ x c, X.env.cells.lookup x = some c → c ≠ b) ∧ ∀ p ∈ X.pn ++ pins, p.1 ≠ b
theorem Inv.fpOk {X : Cx} {pins : List (Addr × Obj)} {σ : St} {H H' : Hp} {s : Shared} {b : Addr} (I : Inv X pins σ H s) (hb : s.heap.objs.size ≤ b) (hn : H' b = none) : FpOk X pins H' b := by
  refine ⟨hn, Nat.ne_of_gt (Nat.lt_of_lt_of_le I.lt hb), I.nofs hb, .inr (Nat.le_trans I.sz hb), fun x c e z => ?_, fun p hp z => ?_⟩
  · obtain ⟨v, q⟩ := I.cell x c e
    exact absurd (Nat.lt_of_lt_of_le q.lt (by rw [z]; exact hb)) (Nat.lt_irrefl _)
  · exact absurd (Nat.lt_of_lt_of_le (Heap.lt_size (I.pin p hp).1) (by rw [z]; exact hb)) (Nat.lt_irrefl _)
structure Turn (P : Program) (w : World) (K : PySem.W.Frag) (tg : Expr) (J : It) (fp : List Addr) (it : Addr) (tn : Nat → Heap → Prop) : Prop where
  mem : it ∈ fp
  obj : ∀ i h, tn i h → ∀ b ∈ fp, ∃ o, h.get? b = some o ∧ ∀ v, o.data ≠ .cell v
  keep : ∀ i h h', tn i h → (∀ b ∈ fp, ∀ o, h.get? b = some o → h'.get? b = some o) → tn i h'
  item : ∀ (X : Cx), X.prog = P → X.w = w → X.K = K → X.calm = true → ∀ (i : Nat) (pins : List (Addr × Obj)) (s : Shared) (σ : St) (H : Hp) (E : Value → Shared → Prop), Inv X pins σ H s → (∀ b ∈ fp, FpOk X pins H b) → tn i s.heap → J.go i H →
    wpAny (model P w) X.A (pyNext (.ref it)) (fun r s1 => ∃ u, r = some u ∧
      wpAny (model P w) X.A (letOwnedTupleGo tg (.ref it) u) (fun _ s2 => ∃ x H', Inv X pins σ H' s2 ∧ RelV x u ∧ J.yld i H x H' ∧ tn (i + 1) s2.heap ∧ ∀ b ∈ fp, H' b = none) E s1) E s
  done : ∀ (X : Cx), X.prog = P → X.w = w → X.K = K → X.calm = true → ∀ (i : Nat) (pins : List (Addr × Obj)) (s : Shared) (σ : St) (H : Hp) (E : Value → Shared → Prop), Inv X pins σ H s → (∀ b ∈ fp, FpOk X pins H b) → tn i s.heap → J.stop i H →
    wpAny (model P w) X.A (pyNext (.ref it)) (fun r s1 => r = none ∧ Inv X pins σ H s1) E s
  self : ∀ (A : Around) (i : Nat) (s : Shared) (Q : Value → Shared → Prop) (E : Value → Shared → Prop), tn i s.heap → Q (.ref it) s → wpAny (model P w) A (pyIter (.ref it)) Q E s
abbrev TI := St → Hp → (It → Hp → Prop) → Prop
/-- an iterator has come -/
def PIE (X : Cx) (pins : List (Addr × Obj)) (σ : St) (tg : Expr) (R : It → Hp → Prop) (itv : Value) (s2 : Shared) : Prop :=
  ∃ (it : Addr) (fp : List Addr) (tn : Nat → Heap → Prop) (J : It) (H' : Hp), itv = .ref it ∧ Inv X pins σ H' s2 ∧ Turn X.prog X.w X.K tg J fp it tn ∧ tn 0 s2.heap ∧ (∀ b ∈ fp, FpOk X pins H' b) ∧ R J H'
def PI (X : Cx) (tg iter : Expr) (wi : TI) : Prop :=
  ∀ (pins : List (Addr × Obj)) (s : Shared) (σ : St) (H : Hp) (R : It → Hp → Prop), Inv X pins σ H s → wi σ H R →
    wpAny (model X.prog X.w) X.A (eval iter X.env) (fun v s1 => wpAny (model X.prog X.w) X.A (pyIter v) (PIE X pins σ tg R) X.xe s1) X.xe s

/-- the step ahead of the store is nothing for an iterator that keeps no tuple -/
theorem go_of {M : Model} {A : Around} {E : Value → Shared → Prop} {s : Shared} {tg : Expr} {it : Addr} {u : Value} {o : Obj} {n : String} {vs : Array Value} {Q : Unit → Shared → Prop} (ho : s.heap.get? it = some o) (hc : o.cls = .type n) (hd : o.data = .fields vs)
    (hn : ["enumerate", "zip", "dict_itemiterator", "dict_reverseitemiterator", "odict_iterator", "itertools.zip_longest", "itertools.pairwise"].contains n = false) (hQ : Q () s) : wpAny M A (letOwnedTupleGo tg (.ref it) u) Q E s := by
  unfold letOwnedTupleGo
  cases tg <;> first
    | exact wpAny_pure hQ
    | (cases u <;> first
        | exact wpAny_pure hQ
        | (refine wpAny_bind (wpAny_load ho ?_)
           rw [hc, hd]
           show wpAny M A (if (["enumerate", "zip", "dict_itemiterator", "dict_reverseitemiterator", "odict_iterator", "itertools.zip_longest", "itertools.pairwise"].contains n && vs[0]? == some (rawInt _)) = true then _ else _) Q E s
           rw [if_neg (by intro h; rw [hn, Bool.false_and] at h; cases h)]
           exact wpAny_pure hQ))

/-- the list at a, as it stands at each turn (a loop may append to it) -/
def Itl (K : PySem.W.Frag) (a : Addr) : It :=
  ⟨fun i H => ∃ xs x, SqL K H a xs ∧ xs[i]? = some x, fun i H x H' => H' = H ∧ ∀ xs, SqL K H a xs → xs[i]? = some x, fun i H => ∃ xs, SqL K H a xs ∧ xs.length ≤ i⟩
def Itt (K : PySem.W.Frag) (a : Addr) : It :=
  ⟨fun i H => ∃ xs x, SqT K H a xs ∧ xs[i]? = some x, fun i H x H' => H' = H ∧ ∀ xs, SqT K H a xs → xs[i]? = some x, fun i H => ∃ xs, SqT K H a xs ∧ xs.length ≤ i⟩
/-- lo, lo + 1, .. (n of them) -/
def Itr (lo : Int) (n : Nat) : It := ⟨fun i _ => i < n, fun i H x H' => H' = H ∧ x = .int (lo + i), fun i _ => n ≤ i⟩
theorem turn_list {P : Program} {w : World} {K : PySem.W.Frag} {tg : Expr} (a it : Addr) : Turn P w K tg (Itl K a) [it] it (fun i h => h.IsListIter it a i) where
  mem := by simp
  obj := fun i h st b hb => by
    have e : b = it := by simpa using hb
    subst e
    obtain ⟨o, e, c, d⟩ := st
    exact ⟨o, e, fun v z => by rw [d] at z; cases z⟩
  keep := fun i h h' st k => st.at fun o e => k it (by simp) o e
  item := by
    intro X hP hw hK hc i pins s σ H E I hf st hg
    subst hP hw hK
    obtain ⟨xs, x, hq, hx⟩ := hg
    obtain ⟨its, rv, p, hz⟩ := I.list hq
    obtain ⟨u, hu, ru⟩ := rv.get hx
    obtain ⟨f0, f1, f2, f3, f4, f5⟩ := hf it (by simp)
    refine wpAny_pyNext_list_item st p.isList (x := u) (by simpa using hu) fun h' st' sb => ?_
    have I1 : Inv X pins σ H { s with heap := h' } := I.turned (t' := s.toks) (fun b o hb e => (sb.2 b hb).trans e) f0 f1 f3 f4 f5
    obtain ⟨o, e, c, d⟩ := id st'
    exact ⟨u, rfl, go_of (s := { s with heap := h' }) e c d (by decide) ⟨x, H, I1, ru, ⟨rfl, fun ys hy => by rw [I.list_inj hy hq]; exact hx⟩, st', fun b hb => (hf b hb).1⟩⟩
  done := by
    intro X hP hw hK hc i pins s σ H E I hf st hg
    subst hP hw hK
    obtain ⟨xs, hq, hx⟩ := hg
    obtain ⟨its, rv, p, hz⟩ := I.list hq
    obtain ⟨f0, f1, f2, f3, f4, f5⟩ := hf it (by simp)
    have hl := rv.length
    exact wpAny_pyNext_list_end (I.ok.hd hc) st p.isList (by simp; omega) fun h' eb => ⟨rfl, I.turned (t' := s.toks) (fun b o hb e => eb b o hb e) f0 f1 f3 f4 f5⟩
  self := fun _ _ _ _ _ st h => wpAny_pyIter_listiter st h
theorem turn_tuple {P : Program} {w : World} {K : PySem.W.Frag} {tg : Expr} (a it : Addr) : Turn P w K tg (Itt K a) [it] it (fun i h => h.IsTupleIter it a i) where
  mem := by simp
  obj := fun i h st b hb => by
    have e : b = it := by simpa using hb
    subst e
    obtain ⟨o, e, c, d⟩ := st
    exact ⟨o, e, fun v z => by rw [d] at z; cases z⟩
  keep := fun i h h' st k => st.at fun o e => k it (by simp) o e
  item := by
    intro X hP hw hK hc i pins s σ H E I hf st hg
    subst hP hw hK
    obtain ⟨xs, x, hq, hx⟩ := hg
    obtain ⟨its, rv, p, hz⟩ := I.tuple hq
    obtain ⟨u, hu, ru⟩ := rv.get hx
    obtain ⟨f0, f1, f2, f3, f4, f5⟩ := hf it (by simp)
    refine wpAny_pyNext_tuple_item st (show s.heap.IsTuple a its.toArray from p) (x := u) (by simpa using hu) fun h' st' sb => ?_
    have I1 : Inv X pins σ H { s with heap := h' } := I.turned (t' := s.toks) (fun b o hb e => (sb.2 b hb).trans e) f0 f1 f3 f4 f5
    obtain ⟨o, e, c, d⟩ := id st'
    exact ⟨u, rfl, go_of (s := { s with heap := h' }) e c d (by decide) ⟨x, H, I1, ru, ⟨rfl, fun ys hy => by rw [I.tuple_inj hy hq]; exact hx⟩, st', fun b hb => (hf b hb).1⟩⟩
  done := by
    intro X hP hw hK hc i pins s σ H E I hf st hg
    subst hP hw hK
    obtain ⟨xs, hq, hx⟩ := hg
    obtain ⟨its, rv, p, hz⟩ := I.tuple hq
    obtain ⟨f0, f1, f2, f3, f4, f5⟩ := hf it (by simp)
    have hl := rv.length
    exact wpAny_pyNext_tuple_end (I.ok.hd hc) st (show s.heap.IsTuple a its.toArray from p) (by simp; omega) fun h' eb => ⟨rfl, I.turned (t' := s.toks) (fun b o hb e => eb b o hb e) f0 f1 f3 f4 f5⟩
  self := fun _ _ _ _ _ st h => wpAny_pyIter_tupleiter st h
theorem turn_range {P : Program} {w : World} {K : PySem.W.Frag} {tg : Expr} (it : Addr) (lo : Int) (n : Nat) : Turn P w K tg (Itr lo n) [it] it (fun i h => IsRangeIter h it (lo + (i : Nat) * 1) ((n : Int) - (i : Nat)) 1) where
  mem := by simp
  obj := fun i h st b hb => by
    have e : b = it := by simpa using hb
    subst e
    exact ⟨_, st, fun v z => by
      have z' : Data.fields _ = Data.cell v := z
      cases z'⟩
  keep := fun i h h' st k => k it (by simp) _ st
  item := by
    intro X hP hw hK hc i pins s σ H E I hf st hg
    subst hP hw hK
    obtain ⟨f0, f1, f2, f3, f4, f5⟩ := hf it (by simp)
    have W := Walks.range (prog := X.prog) (w := X.w) (I.ok.hd hc) it lo 1 n
    refine W.item i s _ _ hg st fun v h' tk hv st' kk => ?_
    obtain ⟨t, rfl⟩ := hv
    have I1 : Inv X pins σ H { s with heap := h', toks := tk } := I.turned (fun b o hb e => kk b o (by simpa using hb) e) f0 f1 f3 f4 f5
    refine ⟨_, rfl, go_of (s := { s with heap := h', toks := tk }) (n := "range_iterator") st' rfl rfl (by decide) ⟨.int (lo + i), H, I1, ⟨t, ?_⟩, ⟨rfl, rfl⟩, st', fun b hb => (hf b hb).1⟩⟩
    rw [Int.mul_one]
  done := by
    intro X hP hw hK hc i pins s σ H E I hf st hg
    subst hP hw hK
    obtain ⟨f0, f1, f2, f3, f4, f5⟩ := hf it (by simp)
    exact wpAny_pyNext_range_end (I.ok.hd hc) st (by have : n ≤ i := hg; omega) fun h' eb => ⟨rfl, I.turned (t' := s.toks) (fun b o hb e => eb b o hb e) f0 f1 f3 f4 f5⟩
  self := fun _ _ _ _ _ st h => wpAny_pyIter_rangeiter st h
end L2

namespace L2
open PySem PySem.Spec PyProof.Rows
section
variable {X : Cx} {tg : Expr}
def iList (K : PySem.W.Frag) (tl : TE) : TI := fun σ H R => tl σ H fun x H1 => ∃ a, x = .ref a ∧ (∃ xs, SqL K H1 a xs) ∧ R (Itl K a) H1
def iTup (K : PySem.W.Frag) (tl : TE) : TI := fun σ H R => tl σ H fun x H1 => ∃ a, x = .ref a ∧ (∃ xs, SqT K H1 a xs) ∧ R (Itt K a) H1
theorem pi_list {l : Expr} {tl : TE} (hl : PE X l tl) : PI X tg l (iList X.K tl) := by
  intro pins s σ H R I h
  refine thn (hl pins s σ H _ I h) fun v s1 ⟨x, H1, I1, r1, q1⟩ => ?_
  obtain ⟨a, e, ⟨xs, hq⟩, q⟩ := q1
  subst e
  cases r1
  obtain ⟨its, rv, p, hz⟩ := I1.list hq
  refine wpAny_pyIter_list p.isList ?_
  refine ⟨s1.heap.objs.size, [s1.heap.objs.size], _, _, H1, rfl, I1.kept (t' := s1.toks) fun b o e => Heap.get?_push_of_some _ e, turn_list a _, ⟨_, Heap.get?_push_size _ rfl, rfl, rfl⟩, fun b hb => ?_, q⟩
  have e : b = s1.heap.objs.size := by simpa using hb
  subst e
  exact I1.fpOk (Nat.le_refl _) (I1.hok.fresh (Nat.le_refl _))
theorem pi_tup {l : Expr} {tl : TE} (hl : PE X l tl) : PI X tg l (iTup X.K tl) := by
  intro pins s σ H R I h
  refine thn (hl pins s σ H _ I h) fun v s1 ⟨x, H1, I1, r1, q1⟩ => ?_
  obtain ⟨a, e, ⟨xs, hq⟩, q⟩ := q1
  subst e
  cases r1
  obtain ⟨its, rv, p, hz⟩ := I1.tuple hq
  refine wpAny_pyIter_tuple (show s1.heap.IsTuple a its.toArray from p) ?_
  refine ⟨s1.heap.objs.size, [s1.heap.objs.size], _, _, H1, rfl, I1.kept (t' := s1.toks) fun b o e => Heap.get?_push_of_some _ e, turn_tuple a _, ⟨_, Heap.get?_push_size _ rfl, rfl, rfl⟩, fun b hb => ?_, q⟩
  have e : b = s1.heap.objs.size := by simpa using hb
  subst e
  exact I1.fpOk (Nat.le_refl _) (I1.hok.fresh (Nat.le_refl _))
/-- a range object just made, walked -/
theorem range_it {pins : List (Addr × Obj)} {σ : St} {H : Hp} {s : Shared} {R : It → Hp → Prop} {E : Value → Shared → Prop} {lo hi : Int} {t u v : Tok} {tk : Nat} (I : Inv X pins σ H s) (h1 : -(2 ^ 62) ≤ lo) (h2 : lo < 2 ^ 62) (h3 : -(2 ^ 62) ≤ hi) (h4 : hi < 2 ^ 62)
    (q : R (Itr lo (hi - lo).toNat) H) : wpAny (model X.prog X.w) X.A (pyIter (.ref s.heap.objs.size)) (PIE X pins σ tg R) E { s with heap := s.heap.push { cls := .type "range", data := .fields #[.int lo t, .int hi u, .int 1 v] }, toks := tk } := by
  refine wpAny_pyIter_range (IsRange.new ..) (small_one h1 h2 h3 h4) ?_
  have I1 : Inv X pins σ H { s with heap := s.heap.push { cls := .type "range", data := .fields #[.int lo t, .int hi u, .int 1 v] }, toks := tk } := I.kept fun b o e => Heap.get?_push_of_some _ e
  refine ⟨(s.heap.push { cls := .type "range", data := .fields #[.int lo t, .int hi u, .int 1 v] }).objs.size, [(s.heap.push { cls := .type "range", data := .fields #[.int lo t, .int hi u, .int 1 v] }).objs.size], _, _, H, rfl,
    I1.kept (t' := tk) fun b o e => Heap.get?_push_of_some _ e, turn_range _ lo (hi - lo).toNat, ?_, fun b hb => ?_, q⟩
  · have e1 : lo + ((0 : Nat) : Int) * 1 = lo := by simp
    have e2 : (((hi - lo).toNat : Nat) : Int) - ((0 : Nat) : Int) = Builtin.Range.rangeSize lo hi 1 := by rw [rangeSize_one]; split <;> omega
    show IsRangeIter _ _ (lo + ((0 : Nat) : Int) * 1) ((((hi - lo).toNat : Nat) : Int) - ((0 : Nat) : Int)) 1
    rw [e1, e2]
    exact Heap.get?_push_size _ rfl
  · have e : b = (s.heap.push { cls := .type "range", data := .fields #[.int lo t, .int hi u, .int 1 v] }).objs.size := by simpa using hb
    subst e
    exact I1.fpOk (Nat.le_refl _) (I1.hok.fresh (Nat.le_refl _))
def iRng1 (ta : TA) : TI := fun σ H R => ta σ H fun vs H1 => ∃ j : Int, vs = [.int j] ∧ -(2 ^ 62) ≤ j ∧ j < 2 ^ 62 ∧ R (Itr 0 j.toNat) H1
def iRng2 (ta : TA) : TI := fun σ H R => ta σ H fun vs H1 => ∃ i j : Int, vs = [.int i, .int j] ∧ (-(2 ^ 62) ≤ i ∧ i < 2 ^ 62 ∧ -(2 ^ 62) ≤ j ∧ j < 2 ^ 62) ∧ R (Itr i (j - i).toNat) H1
theorem pi_range1 {a : Expr} {ta : TA} {p pos : Pos} (hg : Gl X "range") (hm : X.mg "range" = none) (ha : PA X [a] ta) (hs : starEach [a] X.env = [(false, eval a X.env)] := by rfl) : PI X tg (.Call (.Name "range" p) [a] [] pos) (iRng1 ta) := by
  intro pins s σ H R I h
  refine Call_ (ld_blt I hg hm boot_range (PyProof.Rows.callWith_type1 (thn (ha pos pins s σ H _ I h) fun us s1 ⟨vs, H1, I1, r1, q1⟩ => ?_) hs rfl))
  obtain ⟨j, e, q1, q2, q⟩ := q1
  subst e
  cases r1 with
  | cons r rr =>
    cases rr
    obtain ⟨t, rfl⟩ := r
    exact call_range_1 (range_it I1 (by omega) (by omega) q1 q2 (by simpa using q))
theorem pi_range2 {a b : Expr} {ta : TA} {p pos : Pos} (hg : Gl X "range") (hm : X.mg "range" = none) (ha : PA X [a, b] ta) (hs : starEach [a, b] X.env = [(false, eval a X.env), (false, eval b X.env)] := by rfl) (hs2 : starEach [b] X.env = [(false, eval b X.env)] := by rfl) :
    PI X tg (.Call (.Name "range" p) [a, b] [] pos) (iRng2 ta) := by
  intro pins s σ H R I h
  refine Call_ (ld_blt I hg hm boot_range (PyProof.Rows.callWith_type1 (thn (ha pos pins s σ H _ I h) fun us s1 ⟨vs, H1, I1, r1, q1⟩ => ?_) (by rw [hs, hs2]) (by rw [hs2]; rfl)))
  obtain ⟨i, j, e, ⟨q1, q2, q3, q4⟩, q⟩ := q1
  subst e
  cases r1 with
  | cons r rr =>
    cases rr with
    | cons r' rr =>
      cases rr
      obtain ⟨t, rfl⟩ := r
      obtain ⟨t', rfl⟩ := r'
      exact call_range_2 (range_it I1 q1 q2 q3 q4 q)

/-! ### for -/
/-- W: the invariant by the turn and a measure; N: what the body is to reach -/
def tFor (wi : TI) (g : TG) (tb : TS) : TS := fun D σ H => wi σ H fun J H1 => ∃ W : Nat → Nat → St → Hp → Prop, (∃ m, W 0 m σ H1) ∧ ∀ i m σ H, W i m σ H →
  (J.stop i H ∧ D.nx σ H) ∨ (J.go i H ∧ ∃ N : St → Hp → Prop, (∀ σ' H', N σ' H' → ∃ m', m' < m ∧ W (i + 1) m' σ' H') ∧ ∀ x H', J.yld i H x H' → g x σ H' fun σ2 H2 => tb { D with nx := N, ct := N, bk := D.nx } σ2 H2)
/-- the records at fp as they stand -/
def pinsAt (fp : List Addr) (h : Heap) : List (Addr × Obj) := fp.filterMap fun b => (h.get? b).map fun o => (b, o)
theorem mem_pinsAt {fp : List Addr} {h : Heap} {b : Addr} {o : Obj} (hb : b ∈ fp) (e : h.get? b = some o) : (b, o) ∈ pinsAt fp h := List.mem_filterMap.mpr ⟨b, hb, by rw [e]; rfl⟩
theorem of_pinsAt {fp : List Addr} {h : Heap} {p : Addr × Obj} (hp : p ∈ pinsAt fp h) : p.1 ∈ fp ∧ h.get? p.1 = some p.2 := by
  obtain ⟨b, hb, e⟩ := List.mem_filterMap.mp hp
  cases q : h.get? b with
  | none => rw [q] at e; cases e
  | some o =>
    rw [q] at e
    have e' : (b, o) = p := Option.some.inj e
    subst e'
    exact ⟨hb, q⟩
theorem Inv.pinned {pins : List (Addr × Obj)} {σ : St} {H : Hp} {s : Shared} {fp : List Addr} (I : Inv X pins σ H s) (hf : ∀ b ∈ fp, FpOk X pins H b) (ho : ∀ b ∈ fp, ∃ o, s.heap.get? b = some o ∧ ∀ v, o.data ≠ .cell v) : Inv X (pins ++ pinsAt fp s.heap) σ H s :=
  I.pins_of fun p hp => (List.mem_append.mp hp).elim (fun z => I.pin p (List.mem_append_right _ z)) fun z => by
    obtain ⟨hb, e⟩ := of_pinsAt z
    obtain ⟨f0, f1, f2, _⟩ := hf p.1 hb
    obtain ⟨o, e', d⟩ := ho p.1 hb
    rw [e] at e'; cases e'
    exact ⟨e, f0, f1, f2, d⟩
theorem Inv.unpinned {pins pl : List (Addr × Obj)} {σ : St} {H : Hp} {s : Shared} (I : Inv X (pins ++ pl) σ H s) : Inv X pins σ H s := I.pins_of fun p hp => I.pin p (List.mem_append_right _ (List.mem_append_left _ hp))
theorem ps_for {iter : Expr} {body : List Stmt} {wi : TI} {g : TG} {tb : TS} {pos : Pos} (hp : PassesOwn (model X.prog X.w) X.A X.env X.xe) (hc : X.calm = true) (hi : PI X tg iter wi) (hg : PG X tg g) (hb : PSs X body tb)
    (hs : ∀ x, foldedSetIterable iter X.env x = pure x := by intro _; rfl) : PS X (.For tg iter body [] pos) (tFor wi g tb) := by
  intro pins s σ H D I h
  refine wpAny_For (thn (hi pins s σ H _ I h) fun v s1 h1 => thn h1 fun itv s2 h2 => ?_) hs
  obtain ⟨it, fp, tn, J, H2, e, I2, T, st2, f2, W, ⟨m0, w0⟩, turn⟩ := h2
  subst e
  -- what stays true of the iterator's objects through the loop
  have stat : ∀ {H' : Hp}, (∀ b ∈ fp, H' b = none) → ∀ b ∈ fp, FpOk X pins H' b := fun hn b hb => ⟨hn b hb, (f2 b hb).2⟩
  refine codeAny_forLoop_any (fun n s' => ∃ i σ' H', Inv X pins σ' H' s' ∧ tn i s'.heap ∧ (∀ b ∈ fp, H' b = none) ∧ W i n σ' H') ?_ m0 ⟨0, σ, H2, I2, st2, fun b hb => (f2 b hb).1, w0⟩
  rintro n s3 ⟨i, σ3, H3, I3, st3, fr3, w3⟩
  rcases turn i n σ3 H3 w3 with ⟨stop, qn⟩ | ⟨go, N, hN, step⟩
  · refine wpAny_passesOwn hp (thn (T.done X rfl rfl rfl hc i pins s3 σ3 H3 X.xe I3 (stat fr3) st3 stop) fun r s4 ⟨hr, I4⟩ => ?_)
    subst hr
    exact wpAny_execs_nil ⟨σ3, H3, I4, qn⟩
  · refine wpAny_passesOwn hp (thn (T.item X rfl rfl rfl hc i pins s3 σ3 H3 X.xe I3 (stat fr3) st3 go) fun r s4 ⟨u, hr, h4⟩ => ?_)
    subst hr
    refine wpAny_passesOwn hp (thn h4 fun _ s5 ⟨x, H5, I5, r5, y5, st5, fr5⟩ => ?_)
    have I5' := I5.pinned (stat fr5) (T.obj _ _ st5)
    refine wpAny_passesOwn hp (thn (hg _ s5 σ3 H5 x u _ I5' r5 (step x H5 y5)) fun _ s6 ⟨σ6, H6, I6, q6⟩ => ?_)
    refine wpAny_passesOwn hp (thn (hb _ s6 σ6 H6 _ I6 q6) fun f s7 q7 => ?_)
    have again : ∀ {σ7 : St} {H7 : Hp}, Inv X (pins ++ pinsAt fp s5.heap) σ7 H7 s7 → N σ7 H7 → ∃ m, m < n ∧ ∃ i σ' H', Inv X pins σ' H' s7 ∧ tn i s7.heap ∧ (∀ b ∈ fp, H' b = none) ∧ W i m σ' H' := fun {σ7 H7} I7 n7 => by
      obtain ⟨m', hm, w7⟩ := hN σ7 H7 n7
      refine ⟨m', hm, i + 1, σ7, H7, I7.unpinned, T.keep _ _ _ st5 fun b hb o e => (I7.pin (b, o) (List.mem_append_right _ (List.mem_append_right _ (mem_pinsAt hb e)))).1, fun b hb => ?_, w7⟩
      obtain ⟨o, e, d⟩ := T.obj _ _ st5 b hb
      exact (I7.pin (b, o) (List.mem_append_right _ (List.mem_append_right _ (mem_pinsAt hb e)))).2.1
    cases f with
    | next => obtain ⟨σ7, H7, I7, n7⟩ := q7; exact again I7 n7
    | cont => obtain ⟨σ7, H7, I7, n7⟩ := q7; exact again I7 n7
    | brk => obtain ⟨σ7, H7, I7, q7⟩ := q7; exact ⟨σ7, H7, I7.unpinned, q7⟩
    | ret v => obtain ⟨x7, σ7, H7, I7, r7, q7⟩ := q7; exact ⟨x7, σ7, H7, I7.unpinned, r7, q7⟩
end

/-! ### the forms one uses -/
/-- over a list that the body leaves as it is -/
theorem for_list {K : PySem.W.Frag} {a : Addr} {xs : List V} {g : TG} {tb : TS} {D : Ends} {σ : St} {H : Hp} (Pv : Nat → St → Hp → Prop) (h0 : Pv 0 σ H) (hl : ∀ i σ H, i ≤ xs.length → Pv i σ H → SqL K H a xs)
    (hs : ∀ i x σ H, xs[i]? = some x → Pv i σ H → g x σ H fun σ2 H2 => tb { D with nx := Pv (i + 1), ct := Pv (i + 1), bk := D.nx } σ2 H2) (hd : ∀ σ H, Pv xs.length σ H → D.nx σ H) :
    ∃ W : Nat → Nat → St → Hp → Prop, (∃ m, W 0 m σ H) ∧ ∀ i m σ H, W i m σ H →
      ((Itl K a).stop i H ∧ D.nx σ H) ∨ ((Itl K a).go i H ∧ ∃ N : St → Hp → Prop, (∀ σ' H', N σ' H' → ∃ m', m' < m ∧ W (i + 1) m' σ' H') ∧ ∀ x H', (Itl K a).yld i H x H' → g x σ H' fun σ2 H2 => tb { D with nx := N, ct := N, bk := D.nx } σ2 H2) := by
  refine ⟨fun i m σ H => m = xs.length - i ∧ i ≤ xs.length ∧ Pv i σ H, ⟨xs.length, by simp, Nat.zero_le _, h0⟩, ?_⟩
  rintro i m σ H ⟨rfl, hi, p⟩
  have q := hl i σ H hi p
  by_cases hlt : i < xs.length
  · refine .inr ⟨⟨xs, xs[i], q, by simp [hlt]⟩, Pv (i + 1), fun σ' H' p' => ⟨xs.length - (i + 1), by omega, rfl, hlt, p'⟩, fun x H' y => ?_⟩
    obtain ⟨e, y⟩ := y
    subst e
    exact hs i x σ _ (y xs q) p
  · have e : i = xs.length := by omega
    subst e
    exact .inl ⟨⟨xs, q, Nat.le_refl _⟩, hd σ H p⟩
theorem for_tup {K : PySem.W.Frag} {a : Addr} {xs : List V} {g : TG} {tb : TS} {D : Ends} {σ : St} {H : Hp} (Pv : Nat → St → Hp → Prop) (h0 : Pv 0 σ H) (hl : ∀ i σ H, i ≤ xs.length → Pv i σ H → SqT K H a xs)
    (hs : ∀ i x σ H, xs[i]? = some x → Pv i σ H → g x σ H fun σ2 H2 => tb { D with nx := Pv (i + 1), ct := Pv (i + 1), bk := D.nx } σ2 H2) (hd : ∀ σ H, Pv xs.length σ H → D.nx σ H) :
    ∃ W : Nat → Nat → St → Hp → Prop, (∃ m, W 0 m σ H) ∧ ∀ i m σ H, W i m σ H →
      ((Itt K a).stop i H ∧ D.nx σ H) ∨ ((Itt K a).go i H ∧ ∃ N : St → Hp → Prop, (∀ σ' H', N σ' H' → ∃ m', m' < m ∧ W (i + 1) m' σ' H') ∧ ∀ x H', (Itt K a).yld i H x H' → g x σ H' fun σ2 H2 => tb { D with nx := N, ct := N, bk := D.nx } σ2 H2) := by
  refine ⟨fun i m σ H => m = xs.length - i ∧ i ≤ xs.length ∧ Pv i σ H, ⟨xs.length, by simp, Nat.zero_le _, h0⟩, ?_⟩
  rintro i m σ H ⟨rfl, hi, p⟩
  have q := hl i σ H hi p
  by_cases hlt : i < xs.length
  · refine .inr ⟨⟨xs, xs[i], q, by simp [hlt]⟩, Pv (i + 1), fun σ' H' p' => ⟨xs.length - (i + 1), by omega, rfl, hlt, p'⟩, fun x H' y => ?_⟩
    obtain ⟨e, y⟩ := y
    subst e
    exact hs i x σ _ (y xs q) p
  · have e : i = xs.length := by omega
    subst e
    exact .inl ⟨⟨xs, q, Nat.le_refl _⟩, hd σ H p⟩
theorem for_range {lo : Int} {n : Nat} {g : TG} {tb : TS} {D : Ends} {σ : St} {H : Hp} (Pv : Nat → St → Hp → Prop) (h0 : Pv 0 σ H)
    (hs : ∀ i σ H, i < n → Pv i σ H → g (.int (lo + i)) σ H fun σ2 H2 => tb { D with nx := Pv (i + 1), ct := Pv (i + 1), bk := D.nx } σ2 H2) (hd : ∀ σ H, Pv n σ H → D.nx σ H) :
    ∃ W : Nat → Nat → St → Hp → Prop, (∃ m, W 0 m σ H) ∧ ∀ i m σ H, W i m σ H →
      ((Itr lo n).stop i H ∧ D.nx σ H) ∨ ((Itr lo n).go i H ∧ ∃ N : St → Hp → Prop, (∀ σ' H', N σ' H' → ∃ m', m' < m ∧ W (i + 1) m' σ' H') ∧ ∀ x H', (Itr lo n).yld i H x H' → g x σ H' fun σ2 H2 => tb { D with nx := N, ct := N, bk := D.nx } σ2 H2) := by
  refine ⟨fun i m σ H => m = n - i ∧ i ≤ n ∧ Pv i σ H, ⟨n, by simp, Nat.zero_le _, h0⟩, ?_⟩
  rintro i m σ H ⟨rfl, hi, p⟩
  by_cases hlt : i < n
  · refine .inr ⟨hlt, Pv (i + 1), fun σ' H' p' => ⟨n - (i + 1), by omega, rfl, hlt, p'⟩, fun x H' y => ?_⟩
    obtain ⟨e, y⟩ := y
    subst e y
    exact hs i σ _ hlt p
  · have e : i = n := by omega
    subst e
    exact .inl ⟨Nat.le_refl _, hd σ H p⟩
/-- while, by a word and a measure of the state -/
theorem while_by {c : TT} {tb : TS} {D : Ends} {σ : St} {H : Hp} (Pv : St → Hp → Prop) (μ : St → Hp → Nat) (h0 : Pv σ H)
    (hs : ∀ σ H, Pv σ H → c σ H fun b H1 => if b = true then tb { D with nx := fun σ' H' => Pv σ' H' ∧ μ σ' H' < μ σ H, ct := fun σ' H' => Pv σ' H' ∧ μ σ' H' < μ σ H, bk := D.nx } σ H1 else D.nx σ H1)
    (mono : ∀ σ H Q Q', (∀ b H1, Q b H1 → Q' b H1) → c σ H Q → c σ H Q') : tWhile c tb D σ H := by
  refine ⟨fun m σ H => m = μ σ H ∧ Pv σ H, ⟨_, rfl, h0⟩, ?_⟩
  rintro m σ H ⟨rfl, p⟩
  refine mono σ H _ _ (fun b H1 q => ?_) (hs σ H p)
  cases b with
  | true => exact ⟨_, fun σ' H' ⟨p', l⟩ => ⟨_, l, rfl, p'⟩, q⟩
  | false => exact q
end L2

namespace L2
open PySem PySem.Spec PyProof.Rows

abbrev R2 := V → V → Hp → VK → Prop
/-- a two-place operation on values: f is binaryOp op, inplaceOp op or compareOp op -/
def OpR (X : Cx) (f : Value → Value → Sem Value) (r : R2) : Prop :=
  ∀ (pins : List (Addr × Obj)) (s : Shared) (σ : St) (H : Hp) (x y : V) (v u : Value) (Q : VK), Inv X pins σ H s → RelV x v → RelV y u → r x y H Q →
    wpAny (model X.prog X.w) X.A (f v u) (EP X pins σ Q) X.xe s
/-- a one-place operation -/
def UnR (X : Cx) (f : Value → Sem Value) (r : V → Hp → VK → Prop) : Prop :=
  ∀ (pins : List (Addr × Obj)) (s : Shared) (σ : St) (H : Hp) (x : V) (v : Value) (Q : VK), Inv X pins σ H s → RelV x v → r x H Q →
    wpAny (model X.prog X.w) X.A (f v) (EP X pins σ Q) X.xe s
/-- a call of a value that is known (a builtin, a type) with values -/
def CallR (X : Cx) (f : Value) (r : List V → Hp → VK → Prop) : Prop :=
  ∀ (pins : List (Addr × Obj)) (s : Shared) (σ : St) (H : Hp) (xs : List V) (us : List Value) (Q : VK), Inv X pins σ H s → Vals xs us → r xs H Q →
    wpAny (model X.prog X.w) X.A (call f us) (EP X pins σ Q) X.xe s
/-- a value's truth -/
def TruR (X : Cx) (r : V → Hp → (Bool → Hp → Prop) → Prop) : Prop :=
  ∀ (pins : List (Addr × Obj)) (s : Shared) (σ : St) (H : Hp) (x : V) (v : Value) (Q : Bool → Hp → Prop), Inv X pins σ H s → RelV x v → r x H Q →
    wpAny (model X.prog X.w) X.A (truthy v) (TP X pins σ Q) X.xe s

def tOp (r : R2) (ta tb : TE) : TE := fun σ H Q => ta σ H fun x H1 => tb σ H1 fun y H2 => r x y H2 Q
def tUn (r : V → Hp → VK → Prop) (ta : TE) : TE := fun σ H Q => ta σ H fun x H1 => r x H1 Q
/-- ints in, under C, and a value out -/
def rI (C : Int → Int → Prop) (g : Int → Int → V) : R2 := fun x y H Q => ∃ i j, x = .int i ∧ y = .int j ∧ C i j ∧ Q (g i j) H
def rI0 (g : Int → Int → V) : R2 := fun x y H Q => ∃ i j, x = .int i ∧ y = .int j ∧ Q (g i j) H
def rU (g : Int → V) : V → Hp → VK → Prop := fun x H Q => ∃ i, x = .int i ∧ Q (g i) H

section
variable {X : Cx} {a b c : Expr} {ta tb tc : TE} {pos : Pos}

theorem binT (ha : PE X a ta) (hb : PE X b tb) {pins : List (Addr × Obj)} {s : Shared} {σ : St} {H : Hp} {R : V → V → Hp → Prop} (I : Inv X pins σ H s)
    (h : ta σ H fun x H1 => tb σ H1 fun y H2 => R x y H2) {Q : Value → Shared → Prop} {f : Value → Value → Sem Value}
    (hf : ∀ v u s2 x y H2, Inv X pins σ H2 s2 → RelV x v → RelV y u → R x y H2 → wpAny (model X.prog X.w) X.A (f v u) Q X.xe s2) :
    wpAny (model X.prog X.w) X.A (eval a X.env) (fun v s₁ => wpAny (model X.prog X.w) X.A (eval b X.env) (fun u s₂ => wpAny (model X.prog X.w) X.A (f v u) Q X.xe s₂) X.xe s₁) X.xe s := by
  refine thn (ha pins s σ H _ I h) fun v s1 ⟨x, H1, I1, r1, q1⟩ => ?_
  refine thn (hb pins s1 σ H1 _ I1 q1) fun u s2 ⟨y, H2, I2, r2, q2⟩ => ?_
  exact hf v u s2 x y H2 I2 r1 r2 q2

theorem pe_op {op : Operator} {r : R2} (ho : OpR X (binaryOp op) r) (ha : PE X a ta) (hb : PE X b tb) : PE X (.BinOp a op b pos) (tOp r ta tb) := by
  intro pins s σ H Q I h
  exact wpAny_BinOp (binT ha hb I h fun v u s2 x y H2 I2 rx ry q => ho pins s2 σ H2 x y v u Q I2 rx ry q)
theorem pe_un {op : UnaryOp} {r : V → Hp → VK → Prop} (ho : UnR X (unaryOp op) r) (ha : PE X a ta) : PE X (.UnaryOp op a pos) (tUn r ta) := by
  intro pins s σ H Q I h
  exact UnaryOp_ (thn (ha pins s σ H _ I h) fun v s1 ⟨x, H1, I1, r1, q1⟩ => ho pins s1 σ H1 x v Q I1 r1 q1)
/-- a op= e at a name: the name's slot i -/
theorem augR {op : Operator} {r : R2} (ho : OpR X (inplaceOp op) r) {pins : List (Addr × Obj)} {s : Shared} {σ : St} {H : Hp} {x y : V} {v u : Value} {Q : VK} (I : Inv X pins σ H s)
    (rx : RelV x v) (ry : RelV y u) (q : r x y H Q) : wpAny (model X.prog X.w) X.A (inplaceOp op v u) (EP X pins σ Q) X.xe s := ho pins s σ H x y v u Q I rx ry q

/-! ### ints -/
theorem opI {f : Value → Value → Sem Value} {C : Int → Int → Prop} {g : Int → Int → Int}
    (rule : ∀ (i j : Int) (t u : Tok) (s : Shared) (Q : Value → Shared → Prop) (E : Value → Shared → Prop), C i j → Q (.int (g i j) s.toks) { s with toks := s.toks + 1 } → wpAny (model X.prog X.w) X.A (f (.int i t) (.int j u)) Q E s) :
    OpR X f (rI C fun i j => .int (g i j)) := by
  intro pins s σ H x y v u Q I rx ry h
  obtain ⟨i, j, rfl, rfl, hc, q⟩ := h
  obtain ⟨t, rfl⟩ := rx
  obtain ⟨t', rfl⟩ := ry
  exact rule i j t t' s _ _ hc ⟨.int (g i j), H, I.tok _, ⟨_, rfl⟩, q⟩
theorem opI0 {f : Value → Value → Sem Value} {g : Int → Int → Int}
    (rule : ∀ (i j : Int) (t u : Tok) (s : Shared) (Q : Value → Shared → Prop) (E : Value → Shared → Prop), Q (.int (g i j) s.toks) { s with toks := s.toks + 1 } → wpAny (model X.prog X.w) X.A (f (.int i t) (.int j u)) Q E s) :
    OpR X f (rI0 fun i j => .int (g i j)) := by
  intro pins s σ H x y v u Q I rx ry h
  obtain ⟨i, j, rfl, rfl, q⟩ := h
  obtain ⟨t, rfl⟩ := rx
  obtain ⟨t', rfl⟩ := ry
  exact rule i j t t' s _ _ ⟨.int (g i j), H, I.tok _, ⟨_, rfl⟩, q⟩
theorem opB0 {f : Value → Value → Sem Value} {g : Int → Int → Bool}
    (rule : ∀ (i j : Int) (t u : Tok) (s : Shared) (Q : Value → Shared → Prop) (E : Value → Shared → Prop), Q (.bool (g i j)) s → wpAny (model X.prog X.w) X.A (f (.int i t) (.int j u)) Q E s) :
    OpR X f (rI0 fun i j => .bl (g i j)) := by
  intro pins s σ H x y v u Q I rx ry h
  obtain ⟨i, j, rfl, rfl, q⟩ := h
  obtain ⟨t, rfl⟩ := rx
  obtain ⟨t', rfl⟩ := ry
  exact rule i j t t' s _ _ ⟨.bl (g i j), H, I, rfl, q⟩

def CDiv (i j : Int) : Prop := 0 < j ∧ j < 1073741824
def CDivN (i j : Int) : Prop := j ≠ 0 ∧ j.natAbs < 1073741824
def CPow (i j : Int) : Prop := 0 ≤ j ∧ j ≤ 1000000 ∧ i.natAbs < 2 ^ 64
def CMul (i j : Int) : Prop := (-(2 ^ 64) < i ∧ i < 2 ^ 64) ∨ (-(2 ^ 64) < j ∧ j < 2 ^ 64)
theorem CMul.ok {i j : Int} (h : CMul i j) : IntMulOk i j := by
  rcases h with ⟨h1, h2⟩ | ⟨h1, h2⟩
  · exact .of_left (intBits_le_64 h1 h2)
  · exact .of_right (intBits_le_64 h1 h2)
theorem two_pow_nn (k : Nat) : (0 : Int) ≤ 2 ^ k := by
  rw [two_pow_cast]
  exact Int.natCast_nonneg _

theorem op_add : OpR X (binaryOp .Add) (rI0 fun i j => .int (i + j)) := opI0 fun _ _ _ _ _ _ _ q => add_int q
theorem op_sub : OpR X (binaryOp .Sub) (rI0 fun i j => .int (i - j)) := opI0 fun _ _ _ _ _ _ _ q => sub_int q
theorem op_mul : OpR X (binaryOp .Mult) (rI CMul fun i j => .int (i * j)) := opI fun _ _ _ _ _ _ _ hc q => mul_int q hc.ok
/-- // by a positive divisor -/
theorem op_fdiv : OpR X (binaryOp .FloorDiv) (rI CDiv fun i j => .int (i / j)) := opI fun i j _ _ _ _ _ hc q => by
  have h1 : (0 : Int) < j := hc.1
  have h2 : j < 1073741824 := hc.2
  exact floordiv_int (by omega) (by rw [Int.fdiv_eq_ediv_of_nonneg i (by omega)]; exact q) (.inl (PyProof.noPylong_small (by omega)))
theorem op_fdivN : OpR X (binaryOp .FloorDiv) (rI CDivN fun i j => .int (i.fdiv j)) := opI fun _ _ _ _ _ _ _ hc q => floordiv_int hc.1 q (.inl (PyProof.noPylong_small hc.2))
/-- % by a positive divisor of any size -/
theorem op_mod : OpR X (binaryOp .Mod) (rI (fun _ j => 0 < j) fun i j => .int (i % j)) := opI fun i j _ _ _ _ _ hc q => by
  have h1 : (0 : Int) < j := hc
  exact mod_int' (by omega) (by rw [Int.fmod_eq_emod_of_nonneg i (by omega)]; exact q)
theorem op_modN : OpR X (binaryOp .Mod) (rI (fun _ j => j ≠ 0) fun i j => .int (i.fmod j)) := opI fun _ _ _ _ _ _ _ hc q => mod_int' hc q
theorem op_pow : OpR X (binaryOp .Pow) (rI CPow fun i j => .int (i ^ j.toNat)) := opI fun _ _ _ _ _ _ _ hc q => pow_int_small hc.1 hc.2.1 hc.2.2 q
theorem op_shl : OpR X (binaryOp .LShift) (rI CPow fun i j => .int (i * 2 ^ j.toNat)) := opI fun _ _ _ _ _ _ _ hc q => lshift_int_small hc.1 hc.2.1 hc.2.2 q
theorem op_shr : OpR X (binaryOp .RShift) (rI (fun _ j => 0 ≤ j) fun i j => .int (i / 2 ^ j.toNat)) := opI fun i j _ _ _ _ _ hc q =>
  rshift_int hc (by rw [Int.fdiv_eq_ediv_of_nonneg i (two_pow_nn _)]; exact q)
theorem op_and : OpR X (binaryOp .BitAnd) (rI0 fun i j => .int (Builtin.bitAnd i j)) := opI0 fun _ _ _ _ _ _ _ q => and_int q
theorem op_or : OpR X (binaryOp .BitOr) (rI0 fun i j => .int (Builtin.bitOr i j)) := opI0 fun _ _ _ _ _ _ _ q => or_int q
theorem op_xor : OpR X (binaryOp .BitXor) (rI0 fun i j => .int (Builtin.bitXor i j)) := opI0 fun _ _ _ _ _ _ _ q => xor_int q

theorem iop_add : OpR X (inplaceOp .Add) (rI0 fun i j => .int (i + j)) := opI0 fun _ _ _ _ _ _ _ q => iadd_int q
theorem iop_sub : OpR X (inplaceOp .Sub) (rI0 fun i j => .int (i - j)) := opI0 fun _ _ _ _ _ _ _ q => isub_int q
theorem iop_mul : OpR X (inplaceOp .Mult) (rI CMul fun i j => .int (i * j)) := opI fun _ _ _ _ _ _ _ hc q => imul_int q hc.ok
theorem iop_fdiv : OpR X (inplaceOp .FloorDiv) (rI CDiv fun i j => .int (i / j)) := opI fun i j _ _ _ _ _ hc q => by
  have h1 : (0 : Int) < j := hc.1
  have h2 : j < 1073741824 := hc.2
  exact ifloordiv_int (by omega) (by rw [Int.fdiv_eq_ediv_of_nonneg i (by omega)]; exact q) (.inl (PyProof.noPylong_small (by omega)))
theorem iop_mod : OpR X (inplaceOp .Mod) (rI (fun _ j => 0 < j) fun i j => .int (i % j)) := opI fun i j _ _ _ _ _ hc q => by
  have h1 : (0 : Int) < j := hc
  exact imod_int (by omega) (by rw [Int.fmod_eq_emod_of_nonneg i (by omega)]; exact q)
theorem iop_shl : OpR X (inplaceOp .LShift) (rI CPow fun i j => .int (i * 2 ^ j.toNat)) := opI fun _ _ _ _ _ _ _ hc q => ilshift_int_small hc.1 hc.2.1 hc.2.2 q
theorem iop_shr : OpR X (inplaceOp .RShift) (rI (fun _ j => 0 ≤ j) fun i j => .int (i / 2 ^ j.toNat)) := opI fun i j _ _ _ _ _ hc q =>
  irshift_int hc (by rw [Int.fdiv_eq_ediv_of_nonneg i (two_pow_nn _)]; exact q)
theorem iop_and : OpR X (inplaceOp .BitAnd) (rI0 fun i j => .int (Builtin.bitAnd i j)) := opI0 fun _ _ _ _ _ _ _ q => iand_int q
theorem iop_or : OpR X (inplaceOp .BitOr) (rI0 fun i j => .int (Builtin.bitOr i j)) := opI0 fun _ _ _ _ _ _ _ q => ior_int q
theorem iop_xor : OpR X (inplaceOp .BitXor) (rI0 fun i j => .int (Builtin.bitXor i j)) := opI0 fun _ _ _ _ _ _ _ q => ixor_int q

theorem unI {f : Value → Sem Value} {g : Int → Int}
    (rule : ∀ (i : Int) (t : Tok) (s : Shared) (Q : Value → Shared → Prop) (E : Value → Shared → Prop), Q (.int (g i) s.toks) { s with toks := s.toks + 1 } → wpAny (model X.prog X.w) X.A (f (.int i t)) Q E s) :
    UnR X f (rU fun i => .int (g i)) := by
  intro pins s σ H x v Q I rx h
  obtain ⟨i, rfl, q⟩ := h
  obtain ⟨t, rfl⟩ := rx
  exact rule i t s _ _ ⟨.int (g i), H, I.tok _, ⟨_, rfl⟩, q⟩
theorem un_neg : UnR X (unaryOp .USub) (rU fun i => .int (-i)) := unI fun _ _ _ _ _ q => neg_int q
theorem un_inv : UnR X (unaryOp .Invert) (rU fun i => .int (Builtin.bitNot i)) := unI fun _ _ _ _ _ q => invert_int q

/-! ### bools among ints: n += (a < b) -/
theorem op_add_ib : OpR X (binaryOp .Add) (fun x y H Q => ∃ i k, x = .int i ∧ y = .bl k ∧ Q (.int (i + b2i k)) H) := by
  intro pins s σ H x y v u Q I rx ry h
  obtain ⟨i, k, rfl, rfl, q⟩ := h
  obtain ⟨t, rfl⟩ := rx
  cases ry
  exact add_int_bool ⟨.int (i + b2i k), H, I.tok _, ⟨_, rfl⟩, q⟩
end

/-! ### comparisons -/
/-- the scalars that == tells apart as data does -/
def scal : V → V → Bool
  | .non, .non => true | .non, .int _ => true | .int _, .non => true | .non, .bl _ => true | .bl _, .non => true | .non, .str _ => true | .str _, .non => true
  | .int _, .int _ => true | .bl _, .bl _ => true | .str _, .str _ => true | .byt _, .byt _ => true
  | .int _, .str _ => true | .str _, .int _ => true | .bl _, .str _ => true | .str _, .bl _ => true
  | _, _ => false
def rEq : R2 := fun x y H Q => scal x y = true ∧ Q (.bl (decide (x = y))) H
def rNe : R2 := fun x y H Q => scal x y = true ∧ Q (.bl (!decide (x = y))) H

theorem dec_int {i j : Int} : decide (V.int i = V.int j) = (i == j) := by
  rw [Bool.eq_iff_iff]
  simp
theorem dec_bl {i j : Bool} : decide (V.bl i = V.bl j) = (i == j) := by
  rw [Bool.eq_iff_iff]
  simp
theorem dec_str {i j : Str} : decide (V.str i = V.str j) = (i == j) := by
  rw [Bool.eq_iff_iff]
  simp
theorem dec_byt {i j : Array UInt8} : decide (V.byt i = V.byt j) = (i.toList == j.toList) := by
  rw [Bool.eq_iff_iff]
  cases i
  cases j
  simp

section
variable {X : Cx} {a b c : Expr} {ta tb tc : TE} {pos : Pos}
theorem fin_bl {pins : List (Addr × Obj)} {σ : St} {H : Hp} {s : Shared} {Q : VK} {k k' : Bool} (I : Inv X pins σ H s) (q : Q (.bl k) H) (e : k = k') : EP X pins σ Q (.bool k') s := by
  subst e
  exact ⟨.bl k, H, I, rfl, q⟩
theorem op_eq : OpR X (compareOp .Eq) rEq := by
  intro pins s σ H x y v u Q I rx ry h
  obtain ⟨hs, q⟩ := h
  cases x with
  | non =>
    cases rx
    cases y with
    | non => cases ry; exact PySem.EqNone.eq_none_none (fin_bl I q (by simp))
    | bl j => cases ry; exact PySem.EqNone.eq_none_bool (fin_bl I q (by simp))
    | int j => obtain ⟨t', rfl⟩ := ry; exact PySem.EqNone.eq_none_int (fin_bl I q (by simp))
    | str j => obtain ⟨t', rfl⟩ := ry; exact PySem.EqNone.eq_none_str (fin_bl I q (by simp))
    | _ => exact absurd (show false = true from hs) Bool.false_ne_true
  | bl i =>
    cases rx
    cases y with
    | non => cases ry; exact PySem.EqNone.eq_bool_none (fin_bl I q (by simp))
    | bl j => cases ry; exact eq_bool (fin_bl I q dec_bl)
    | str j => obtain ⟨t', rfl⟩ := ry; exact PySem.EqMixed.eq_bool_str (fin_bl I q (by simp))
    | _ => exact absurd (show false = true from hs) Bool.false_ne_true
  | int i =>
    obtain ⟨t, rfl⟩ := rx
    cases y with
    | non => cases ry; exact PySem.EqNone.eq_int_none (fin_bl I q (by simp))
    | int j => obtain ⟨t', rfl⟩ := ry; exact eq_int (fin_bl I q dec_int)
    | str j => obtain ⟨t', rfl⟩ := ry; exact PySem.EqMixed.eq_int_str (fin_bl I q (by simp))
    | _ => exact absurd (show false = true from hs) Bool.false_ne_true
  | str i =>
    obtain ⟨t, rfl⟩ := rx
    cases y with
    | non => cases ry; exact PySem.EqNone.eq_str_none (fin_bl I q (by simp))
    | bl j => cases ry; exact PySem.EqMixed.eq_str_bool (fin_bl I q (by simp))
    | int j => obtain ⟨t', rfl⟩ := ry; exact PySem.EqMixed.eq_str_int (fin_bl I q (by simp))
    | str j => obtain ⟨t', rfl⟩ := ry; exact eq_str (fin_bl I q dec_str)
    | _ => exact absurd (show false = true from hs) Bool.false_ne_true
  | byt i =>
    obtain ⟨t, rfl⟩ := rx
    cases y with
    | byt j => obtain ⟨t', rfl⟩ := ry; exact PySem.W.eq_bytes (fin_bl I q dec_byt)
    | _ => exact absurd (show false = true from hs) Bool.false_ne_true
  | _ => cases y <;> exact absurd (show false = true from hs) Bool.false_ne_true
theorem op_ne : OpR X (compareOp .NotEq) rNe := by
  intro pins s σ H x y v u Q I rx ry h
  obtain ⟨hs, q⟩ := h
  cases x with
  | non =>
    cases rx
    cases y with
    | non => cases ry; exact PySem.EqNone.ne_none_none (fin_bl I q (by simp))
    | bl j => cases ry; exact PySem.EqNone.ne_none_bool (fin_bl I q (by simp))
    | int j => obtain ⟨t', rfl⟩ := ry; exact PySem.EqNone.ne_none_int (fin_bl I q (by simp))
    | str j => obtain ⟨t', rfl⟩ := ry; exact PySem.EqNone.ne_none_str (fin_bl I q (by simp))
    | _ => exact absurd (show false = true from hs) Bool.false_ne_true
  | bl i =>
    cases rx
    cases y with
    | non => cases ry; exact PySem.EqNone.ne_bool_none (fin_bl I q (by simp))
    | bl j => cases ry; exact ne_bool (fin_bl I q (congrArg not dec_bl))
    | str j => obtain ⟨t', rfl⟩ := ry; exact PySem.EqMixed.ne_bool_str (fin_bl I q (by simp))
    | _ => exact absurd (show false = true from hs) Bool.false_ne_true
  | int i =>
    obtain ⟨t, rfl⟩ := rx
    cases y with
    | non => cases ry; exact PySem.EqNone.ne_int_none (fin_bl I q (by simp))
    | int j => obtain ⟨t', rfl⟩ := ry; exact ne_int (fin_bl I q (congrArg not dec_int))
    | str j => obtain ⟨t', rfl⟩ := ry; exact PySem.EqMixed.ne_int_str (fin_bl I q (by simp))
    | _ => exact absurd (show false = true from hs) Bool.false_ne_true
  | str i =>
    obtain ⟨t, rfl⟩ := rx
    cases y with
    | non => cases ry; exact PySem.EqNone.ne_str_none (fin_bl I q (by simp))
    | bl j => cases ry; exact PySem.EqMixed.ne_str_bool (fin_bl I q (by simp))
    | int j => obtain ⟨t', rfl⟩ := ry; exact PySem.EqMixed.ne_str_int (fin_bl I q (by simp))
    | str j => obtain ⟨t', rfl⟩ := ry; exact ne_str (fin_bl I q (congrArg not dec_str))
    | _ => exact absurd (show false = true from hs) Bool.false_ne_true
  | byt i =>
    obtain ⟨t, rfl⟩ := rx
    cases y with
    | byt j => obtain ⟨t', rfl⟩ := ry; exact PySem.W.ne_bytes (fin_bl I q (congrArg not dec_byt))
    | _ => exact absurd (show false = true from hs) Bool.false_ne_true
  | _ => cases y <;> exact absurd (show false = true from hs) Bool.false_ne_true

theorem op_lt : OpR X (compareOp .Lt) (rI0 fun i j => .bl (decide (i < j))) := opB0 fun _ _ _ _ _ _ _ q => lt_int q
theorem op_le : OpR X (compareOp .LtE) (rI0 fun i j => .bl (decide (i ≤ j))) := opB0 fun _ _ _ _ _ _ _ q => le_int q
theorem op_gt : OpR X (compareOp .Gt) (rI0 fun i j => .bl (decide (j < i))) := opB0 fun _ _ _ _ _ _ _ q => gt_int q
theorem op_ge : OpR X (compareOp .GtE) (rI0 fun i j => .bl (decide (j ≤ i))) := opB0 fun _ _ _ _ _ _ _ q => ge_int q
theorem op_lt_str : OpR X (compareOp .Lt) (fun x y H Q => ∃ i j, x = .str i ∧ y = .str j ∧ Q (.bl (decide (i.cps.toList < j.cps.toList))) H) := by
  intro pins s σ H x y v u Q I rx ry h
  obtain ⟨i, j, rfl, rfl, q⟩ := h
  obtain ⟨t, rfl⟩ := rx
  obtain ⟨t', rfl⟩ := ry
  exact lt_str (fin_bl I q rfl)
/-- the one string within the other -/
theorem op_in_str : OpR X (compareOp .In) (fun x y H Q => ∃ i j, x = .str i ∧ y = .str j ∧ Q (.bl (!(Builtin.Str.occurrences j i 0 j.length 1).isEmpty)) H) := by
  intro pins s σ H x y v u Q I rx ry h
  obtain ⟨i, j, rfl, rfl, q⟩ := h
  obtain ⟨t, rfl⟩ := rx
  obtain ⟨t', rfl⟩ := ry
  exact in_str (fin_bl I q rfl)

/-- is None, is not None: the right side a value none -/
theorem op_isN : OpR X (compareOp .Is) (fun x y H Q => y = .non ∧ Q (.bl (decide (x = .non))) H) := by
  intro pins s σ H x y v u Q I rx ry h
  obtain ⟨rfl, q⟩ := h
  cases ry
  refine is_none_gen (fin_bl I q ?_)
  cases x <;> first
    | (cases rx; rfl)
    | (obtain ⟨t, rfl⟩ := rx; rfl)
theorem op_notN : OpR X (compareOp .IsNot) (fun x y H Q => y = .non ∧ Q (.bl (!decide (x = .non))) H) := by
  intro pins s σ H x y v u Q I rx ry h
  obtain ⟨rfl, q⟩ := h
  cases ry
  refine isnot_none_gen (fin_bl I q ?_)
  cases x <;> first
    | (cases rx; rfl)
    | (obtain ⟨t, rfl⟩ := rx; rfl)

theorem op_notin_str : OpR X (compareOp .NotIn) (fun x y H Q => ∃ i j, x = .str i ∧ y = .str j ∧ Q (.bl (!(!(Builtin.Str.occurrences j i 0 j.length 1).isEmpty))) H) := by
  intro pins s σ H x y v u Q I rx ry h
  obtain ⟨i, j, rfl, rfl, q⟩ := h
  obtain ⟨t, rfl⟩ := rx
  obtain ⟨t', rfl⟩ := ry
  exact notIn_str (fin_bl I q rfl)
/-- is, is not of two objects that are tracked lists or instances -/
def isObj : HO → Bool
  | .lst _ => true
  | .ins _ _ _ => true
  | _ => false
theorem obj_there {pins : List (Addr × Obj)} {s : Shared} {σ : St} {H : Hp} {a : Addr} {o : HO} (I : Inv X pins σ H s) (h : H a = some o) (p : isObj o = true) : ∃ ob, s.heap.get? a = some ob ∧ ob.cls ≠ .type "tuple" := by
  cases o with
  | lst xs =>
    obtain ⟨_, its, n, _, e⟩ : xs.length ≤ sizeLine ∧ ∃ (its : List Value) (n : Nat), Vals xs its ∧ s.heap.get? a = some { cls := .type "list", data := .seq its.toArray n } := I.hok a _ h
    exact ⟨_, e, (by show Value.type "list" ≠ .type "tuple"; decide +kernel)⟩
  | ins C dx fs =>
    have x := I.hok a _ h
    obtain ⟨_, _, _, e, _⟩ := x
    exact ⟨_, e, (by show Value.ref C ≠ .type "tuple"; exact fun z => by cases z)⟩
  | _ => exact absurd (show false = true from p) Bool.false_ne_true
theorem op_is_ref : OpR X (compareOp .Is) (fun x y H Q => ∃ a b oa ob, x = .ref a ∧ y = .ref b ∧ H a = some oa ∧ isObj oa = true ∧ H b = some ob ∧ isObj ob = true ∧ Q (.bl (decide (a = b))) H) := by
  intro pins s σ H x y v u Q I rx ry h
  obtain ⟨a, b, oa, ob, rfl, rfl, ha, pa, hb, pb, q⟩ := h
  cases rx
  cases ry
  obtain ⟨o1, e1, n1⟩ := obj_there I ha pa
  obtain ⟨o2, e2, _⟩ := obj_there I hb pb
  by_cases z : a = b
  · subst z
    exact wpAny_is_ref_self (fin_bl I q (by simp))
  · exact wpAny_is_ref_other z e1 e2 n1 (fin_bl I q (by simp [z]))
theorem op_isnot_ref : OpR X (compareOp .IsNot) (fun x y H Q => ∃ a b oa ob, x = .ref a ∧ y = .ref b ∧ H a = some oa ∧ isObj oa = true ∧ H b = some ob ∧ isObj ob = true ∧ Q (.bl (!decide (a = b))) H) := by
  intro pins s σ H x y v u Q I rx ry h
  obtain ⟨a, b, oa, ob, rfl, rfl, ha, pa, hb, pb, q⟩ := h
  cases rx
  cases ry
  obtain ⟨o1, e1, n1⟩ := obj_there I ha pa
  obtain ⟨o2, e2, _⟩ := obj_there I hb pb
  by_cases z : a = b
  · subst z
    exact wpAny_isNot_ref_self (fin_bl I q (by simp))
  · exact wpAny_isNot_ref_other z e1 e2 n1 (fin_bl I q (by simp [z]))

/-- two rules for one operation: by cases -/
theorem OpR.or {f : Value → Value → Sem Value} {r r' : R2} (h : OpR X f r) (h' : OpR X f r') : OpR X f (fun x y H Q => r x y H Q ∨ r' x y H Q) := by
  intro pins s σ H x y v u Q I rx ry q
  rcases q with q | q
  · exact h pins s σ H x y v u Q I rx ry q
  · exact h' pins s σ H x y v u Q I rx ry q

theorem nomark (b : Expr) {op : CmpOp} (h : op ≠ .In := by decide) (h2 : op ≠ .NotIn := by decide) : behindInMarks op b = false := by
  have e1 : (op == CmpOp.In) = false := by cases op <;> first | rfl | exact absurd rfl h
  have e2 : (op == CmpOp.NotIn) = false := by cases op <;> first | rfl | exact absurd rfl h2
  cases b <;> simp [behindInMarks, e1, e2]
/-- a comparison as a value; hm: nomark b, or (for in, not in) by with_unfolding_all rfl -/
theorem pe_cmpR {op : CmpOp} {r : R2} (ho : OpR X (compareOp op) r) (ha : PE X a ta) (hb : PE X b tb) (hm : behindInMarks op b = false) : PE X (.Compare a [op] [b] pos) (tOp r ta tb) := by
  intro pins s σ H Q I h
  exact wpAny_Compare1 (binT ha hb I h fun v u s2 x y H2 I2 rx ry q => ho pins s2 σ H2 x y v u Q I2 rx ry q) hm
/-- a reading of a value as a test -/
def tTest (t : TE) : TT := fun σ H Q => t σ H fun x H' => ∃ k, x = .bl k ∧ Q k H'
theorem pt_cmpR {op : CmpOp} {r : R2} (ho : OpR X (compareOp op) r) (ha : PE X a ta) (hb : PE X b tb) (hm : behindInMarks op b = false) : PT X (.Compare a [op] [b] pos) (tTest (tOp r ta tb)) := by
  intro pins s σ H Q I h
  refine wpAny_isTrue_Compare1 (thn (ha pins s σ H _ I h) fun v s1 ⟨x, H1, I1, r1, q1⟩ => thn (hb pins s1 σ H1 _ I1 q1) fun u s2 ⟨y, H2, I2, r2, q2⟩ =>
    thn (ho pins s2 σ H2 x y v u _ I2 r1 r2 q2) fun c s3 ⟨z, H3, I3, r3, k, e, q3⟩ => ?_) hm
  subst e
  cases r3
  exact wpAny_truthy_bool ⟨H3, I3, q3⟩
/-- a op1 b op2 c -/
def tChain (r r' : R2) (ta tb tc : TE) : TE := fun σ H Q => ta σ H fun x H1 => tb σ H1 fun y H2 => r x y H2 fun z H3 => ∃ k, z = .bl k ∧
  (if k = true then tc σ H3 fun w' H4 => r' y w' H4 Q else Q (.bl false) H3)
theorem pe_chain {op op' : CmpOp} {r r' : R2} (ho : OpR X (compareOp op) r) (ho' : OpR X (compareOp op') r') (ha : PE X a ta) (hb : PE X b tb) (hc : PE X c tc)
    (hm : lastMarks [op, op'] [b, c] = false := by with_unfolding_all rfl) : PE X (.Compare a [op, op'] [b, c] pos) (tChain r r' ta tb tc) := by
  intro pins s σ H Q I h
  refine Compare_chain (thn (ha pins s σ H _ I h) fun v s1 ⟨x, H1, I1, r1, q1⟩ => chain_link (thn (hb pins s1 σ H1 _ I1 q1) fun u s2 ⟨y, H2, I2, r2, q2⟩ =>
    thn (ho pins s2 σ H2 x y v u _ I2 r1 r2 q2) fun d s3 ⟨z, H3, I3, r3, k, e, q3⟩ => ?_)) hm
  subst e
  cases r3
  refine wpAny_truthy_bool ?_
  cases k with
  | false => exact ite_ff ⟨.bl false, H3, I3, rfl, q3⟩
  | true => exact ite_tt (chain_last (thn (hc pins s3 σ H3 _ I3 q3) fun w' s4 ⟨z', H4, I4, r4, q4⟩ => ho' pins s4 σ H4 y z' u w' Q I4 r2 r4 q4))
theorem pt_chain {op op' : CmpOp} {r r' : R2} (ho : OpR X (compareOp op) r) (ho' : OpR X (compareOp op') r') (ha : PE X a ta) (hb : PE X b tb) (hc : PE X c tc)
    (hm : lastMarks [op, op'] [b, c] = false := by with_unfolding_all rfl) : PT X (.Compare a [op, op'] [b, c] pos) (tTest (tChain r r' ta tb tc)) := by
  intro pins s σ H Q I h
  refine isTrue_chain (thn (ha pins s σ H _ I h) fun v s1 ⟨x, H1, I1, r1, q1⟩ => test_link (thn (hb pins s1 σ H1 _ I1 q1) fun u s2 ⟨y, H2, I2, r2, q2⟩ =>
    thn (ho pins s2 σ H2 x y v u _ I2 r1 r2 q2) fun d s3 ⟨z, H3, I3, r3, k, e, q3⟩ => ?_)) hm
  subst e
  cases r3
  refine wpAny_truthy_bool ?_
  cases k with
  | false =>
    obtain ⟨k', e', q'⟩ := q3
    cases e'
    exact ite_ff ⟨H3, I3, q'⟩
  | true =>
    refine ite_tt (test_last (thn (hc pins s3 σ H3 _ I3 q3) fun w' s4 ⟨z', H4, I4, r4, q4⟩ => thn (ho' pins s4 σ H4 y z' u w' _ I4 r2 r4 q4) fun d' s5 ⟨z2, H5, I5, r5, k2, e2, q5⟩ => ?_))
    subst e2
    cases r5
    exact wpAny_truthy_bool ⟨H5, I5, q5⟩

/-! ### truth -/
/-- a value's truth by the abstract heap -/
def TruV (K : PySem.W.Frag) (x : V) (H : Hp) (k : Bool) : Prop :=
  match x with
  | .non => k = false
  | .bl b => k = b
  | .int i => k = (i != 0)
  | .str y => y.length ≤ sizeLine ∧ k = ((y.length : Int) != 0)
  | .byt y => y.size ≤ sizeLine ∧ k = ((y.size : Int) != 0)
  | .ref p => (∃ xs, SqL K H p xs ∧ k = !xs.isEmpty) ∨ (∃ xs, SqT K H p xs ∧ k = !xs.isEmpty) ∨ ∃ kvs, H p = some (.dK kvs) ∧ k = !kvs.isEmpty
  | _ => False
theorem isEmpty_kv {κ : Type} {kvs : List (κ × V)} {vs : List (κ × Value)} (r : KV kvs vs) : (!vs.isEmpty) = !kvs.isEmpty := by
  cases r <;> rfl
theorem isEmpty_of {xs : List V} {its : List Value} (r : Vals xs its) : (!its.toArray.isEmpty) = !xs.isEmpty := by
  cases r <;> simp
theorem line63 : (sizeLine : Nat) < 2 ^ 63 := by rw [sizeLine_eq]; decide
theorem tru_ok : TruR X (fun x H Q => ∃ k, TruV X.K x H k ∧ Q k H) := by
  intro pins s σ H x v Q I rx h
  obtain ⟨k, e, q⟩ := h
  have hl := line63
  have hs : sizeLine = 16777216 := sizeLine_eq
  cases x with
  | non =>
    cases rx
    have e' : k = false := e
    subst e'
    exact truthy_none ⟨H, I, q⟩
  | bl b =>
    cases rx
    have e' : k = b := e
    subst e'
    exact wpAny_truthy_bool ⟨H, I, q⟩
  | int i =>
    obtain ⟨t, rfl⟩ := rx
    have e' : k = (i != 0) := e
    subst e'
    exact PySem.P.truthy_int ⟨H, I, q⟩
  | str y =>
    obtain ⟨t, rfl⟩ := rx
    obtain ⟨hy, e'⟩ : y.length ≤ sizeLine ∧ k = ((y.length : Int) != 0) := e
    subst e'
    exact PySem.P.truthy_str (by omega) ⟨H, I.tok _, q⟩
  | byt y =>
    obtain ⟨t, rfl⟩ := rx
    obtain ⟨hy, e'⟩ : y.size ≤ sizeLine ∧ k = ((y.size : Int) != 0) := e
    subst e'
    exact PySem.W.truthy_bytes (by omega) ⟨H, I.tok _, q⟩
  | ref p =>
    cases rx
    have e' : (∃ xs, SqL X.K H p xs ∧ k = !xs.isEmpty) ∨ (∃ xs, SqT X.K H p xs ∧ k = !xs.isEmpty) ∨ ∃ kvs, H p = some (.dK kvs) ∧ k = !kvs.isEmpty := e
    rcases e' with ⟨xs, hx, e'⟩ | ⟨xs, hx, e'⟩ | ⟨kvs, hx, e'⟩
    · subst e'
      obtain ⟨its, r, pl, hz⟩ := I.list hx
      have hlen := r.length
      exact wpAny_truthy_list pl.isList (by simp only [List.size_toArray]; omega) ⟨H, I.tok _, by rw [isEmpty_of r]; exact q⟩
    · subst e'
      obtain ⟨its, r, pl, hz⟩ := I.tuple hx
      have hlen := r.length
      exact truthy_tuple pl (by simp only [List.size_toArray]; omega) ⟨H, I.tok _, by rw [isEmpty_of r]; exact q⟩
    · subst e'
      obtain ⟨hz, hS, vs, r, m⟩ : kvs.length ≤ sizeLine ∧ (p == sysModules) = false ∧ ∃ vs, KV kvs vs ∧ s.heap.DictOf (mixKind X.prog X.w) p vs := I.hok p _ hx
      have hlen : kvs.length = vs.length := Paired.length r
      exact wpAny_truthy_dict hS m (by omega) ⟨H, I.tok _, by rw [isEmpty_kv r]; exact q⟩
  | _ => exact (show False from e).elim
/-- any expression whose test is its value's truth (a name, a call, a subscript, a field ..: he by fun _ => rfl) -/
theorem pt_truth (ha : PE X a ta) (he : ∀ whole, isTrue a X.env whole = (do let v ← whole; standAt a.pos; holding [v] (truthy v))) :
    PT X a (fun σ H Q => ta σ H fun x H' => ∃ k, TruV X.K x H' k ∧ Q k H') := by
  intro pins s σ H Q I h
  exact isTrue_plain (thn (ha pins s σ H _ I h) fun v s1 ⟨x, H1, I1, r1, q1⟩ => tru_ok pins s1 σ H1 x v Q I1 r1 q1) (he _)

/-! ### strs and bytes -/
theorem pe_byt {x : List UInt8} {k : Nat} : PE X (.Constant (.bytes x) k pos) (fun _ H Q => Q (.byt x.toArray) H) := fun _ _ _ H _ I h => PySem.W.Constant_bytes ⟨.byt x.toArray, H, I.tok _, ⟨_, rfl⟩, h⟩
theorem op_add_str : OpR X (binaryOp .Add) (fun x y H Q => ∃ i j, x = .str i ∧ y = .str j ∧ i.length + j.length ≤ sizeLine ∧ Q (.str (i ++ j)) H) := by
  intro pins s σ H x y v u Q I rx ry h
  obtain ⟨i, j, rfl, rfl, hz, q⟩ := h
  obtain ⟨t, rfl⟩ := rx
  obtain ⟨t', rfl⟩ := ry
  exact add_str (fun t' tk => ⟨.str (i ++ j), H, I.tok _, ⟨_, rfl⟩, q⟩) hz
theorem iop_add_str : OpR X (inplaceOp .Add) (fun x y H Q => ∃ i j, x = .str i ∧ y = .str j ∧ i.length + j.length ≤ sizeLine ∧ Q (.str (i ++ j)) H) := by
  intro pins s σ H x y v u Q I rx ry h
  obtain ⟨i, j, rfl, rfl, hz, q⟩ := h
  obtain ⟨t, rfl⟩ := rx
  obtain ⟨t', rfl⟩ := ry
  exact iadd_str (fun t' tk => ⟨.str (i ++ j), H, I.tok _, ⟨_, rfl⟩, q⟩) hz
theorem op_add_byt : OpR X (binaryOp .Add) (fun x y H Q => ∃ i j, x = .byt i ∧ y = .byt j ∧ i.size + j.size ≤ 16777216 ∧ Q (.byt (i ++ j)) H) := by
  intro pins s σ H x y v u Q I rx ry h
  obtain ⟨i, j, rfl, rfl, hz, q⟩ := h
  obtain ⟨t, rfl⟩ := rx
  obtain ⟨t', rfl⟩ := ry
  exact PySem.W.KBy.add_bytes hz (fun t' tk => ⟨.byt (i ++ j), H, I.tok _, ⟨_, rfl⟩, q⟩)

def PlainIxT (b : Expr) : Prop := ∀ o i, subscripted b false o i = operate [o, i] (getItem o i)
/-- s[i], 0 ≤ i < len -/
theorem pe_item_str (ha : PE X a ta) (hb : PE X b tb) (hs : PlainIxT b) :
    PE X (.Subscript a b pos) (tOp (fun x y H Q => ∃ z i c, x = .str z ∧ y = .int i ∧ 0 ≤ i ∧ i < 2 ^ 63 ∧ i < z.length ∧ z.cps[i.toNat]? = some c ∧ Q (.str ⟨#[c]⟩) H) ta tb) := by
  intro pins s σ H Q I h
  refine Subscript_ (binT ha hb I h fun v u s2 x y H2 I2 rx ry q => ?_)
  obtain ⟨z, i, c, rfl, rfl, h0, h63, h1, hc, q⟩ := q
  obtain ⟨t, rfl⟩ := rx
  obtain ⟨t', rfl⟩ := ry
  have e : seqIndex? i z.length = some i.toNat := PySem.StrLaws.seqIndex_nonneg h0 h1
  exact tail_any (typeIs_str s2 z t) slot_str_getitem.lookup (getItem_str (c := c) (by
    have e1 : decide (i < -(2 ^ 63 : Int)) = false := decide_eq_false (by omega)
    have e2 : decide (i ≥ 2 ^ 63) = false := decide_eq_false (by omega)
    rw [e1, e2] <;> rfl) (by rw [e]; exact hc) ⟨.str ⟨#[c]⟩, H2, I2.tok _, ⟨_, rfl⟩, q⟩) (hs _ _)
/-- b[i], 0 ≤ i < len -/
theorem pe_item_byt (ha : PE X a ta) (hb : PE X b tb) (hs : PlainIxT b) :
    PE X (.Subscript a b pos) (tOp (fun x y H Q => ∃ (z : List UInt8) (i : Int), x = .byt z.toArray ∧ y = .int i ∧ z.length ≤ sizeLine ∧ 0 ≤ i ∧ i < z.length ∧ Q (.int ((z.getD i.toNat 0).toNat : Nat)) H) ta tb) := by
  intro pins s σ H Q I h
  refine Subscript_ (binT ha hb I h fun v u s2 x y H2 I2 rx ry q => ?_)
  obtain ⟨z, i, rfl, rfl, hz, h0, h1, q⟩ := q
  obtain ⟨t, rfl⟩ := rx
  obtain ⟨t', rfl⟩ := ry
  have hl : sizeLine = 16777216 := sizeLine_eq
  exact tail_any (PySem.W.typeIs_bytes s2 z.toArray t) PySem.W.FB.slot_bytes_getitem.lookup (PySem.W.getItem_bytes (by omega) h0 h1 ⟨.int ((z.getD i.toNat 0).toNat : Nat), H2, I2.tok _, ⟨_, rfl⟩, q⟩) (hs _ _)

/-! ### scalar builtins, by CallR -/
theorem vals1 {x : V} {us : List Value} (r : Vals [x] us) : ∃ u, us = [u] ∧ RelV x u := by
  cases r with
  | cons r1 r2 => cases r2; exact ⟨_, rfl, r1⟩
theorem vals2 {x y : V} {us : List Value} (r : Vals [x, y] us) : ∃ u w', us = [u, w'] ∧ RelV x u ∧ RelV y w' := by
  cases r with
  | cons r1 r2 =>
    cases r2 with
    | cons r3 r4 => cases r4; exact ⟨_, _, rfl, r1, r3⟩
theorem call_abs : CallR X (.builtin "abs") (fun xs H Q => ∃ i, xs = [.int i] ∧ Q (.int (if i < 0 then -i else i)) H) := by
  intro pins s σ H xs us Q I r h
  obtain ⟨i, rfl, q⟩ := h
  obtain ⟨u, rfl, t, rfl⟩ := vals1 r
  exact call_abs_int fun u tk => ⟨.int (if i < 0 then -i else i), H, I.tok _, ⟨_, rfl⟩, q⟩
theorem call_max2 (hc : X.calm = true) : CallR X (.builtin "max") (fun xs H Q => ∃ i j, xs = [.int i, .int j] ∧ Q (.int (if j > i then j else i)) H) := by
  intro pins s σ H xs us Q I r h
  obtain ⟨i, j, rfl, q⟩ := h
  obtain ⟨u, w', rfl, ⟨t, rfl⟩, ⟨t', rfl⟩⟩ := vals2 r
  refine max_two_ints (I.ok.hd hc) fun h' tk k => ⟨_, H, I.kept k, ?_, q⟩
  by_cases hj : j > i
  · rw [if_pos hj, if_pos hj]; exact ⟨_, rfl⟩
  · rw [if_neg hj, if_neg hj]; exact ⟨_, rfl⟩
theorem call_min2 (hc : X.calm = true) : CallR X (.builtin "min") (fun xs H Q => ∃ i j, xs = [.int i, .int j] ∧ Q (.int (if j < i then j else i)) H) := by
  intro pins s σ H xs us Q I r h
  obtain ⟨i, j, rfl, q⟩ := h
  obtain ⟨u, w', rfl, ⟨t, rfl⟩, ⟨t', rfl⟩⟩ := vals2 r
  refine min_two_ints (I.ok.hd hc) fun h' tk k => ⟨_, H, I.kept k, ?_, q⟩
  by_cases hj : j < i
  · rw [if_pos hj, if_pos hj]; exact ⟨_, rfl⟩
  · rw [if_neg hj, if_neg hj]; exact ⟨_, rfl⟩
theorem call_int1 : CallR X (.type "int") (fun xs H Q => (∃ i, xs = [.int i] ∧ Q (.int i) H) ∨ ∃ k, xs = [.bl k] ∧ Q (.int (if k then 1 else 0)) H) := by
  intro pins s σ H xs us Q I r h
  rcases h with ⟨i, rfl, q⟩ | ⟨k, rfl, q⟩
  · obtain ⟨u, rfl, t, rfl⟩ := vals1 r
    exact call_int_int ⟨.int i, H, I, ⟨_, rfl⟩, q⟩
  · obtain ⟨u, rfl, r1⟩ := vals1 r
    cases r1
    exact call_int_bool ⟨.int (if k then 1 else 0), H, I.tok _, ⟨_, rfl⟩, q⟩
theorem call_bool1 : CallR X (.type "bool") (fun xs H Q => (∃ i, xs = [.int i] ∧ Q (.bl (i != 0)) H) ∨ ∃ k, xs = [.bl k] ∧ Q (.bl k) H) := by
  intro pins s σ H xs us Q I r h
  rcases h with ⟨i, rfl, q⟩ | ⟨k, rfl, q⟩
  · obtain ⟨u, rfl, t, rfl⟩ := vals1 r
    exact call_bool_int ⟨.bl (i != 0), H, I, rfl, q⟩
  · obtain ⟨u, rfl, r1⟩ := vals1 r
    cases r1
    exact call_bool_bool ⟨.bl k, H, I, rfl, q⟩
theorem call_str_int : CallR X (.type "str") (fun xs H Q => ∃ i, xs = [.int i] ∧ i.natAbs.log2 < 1920 ∧ Q (.str (toString i)) H) := by
  intro pins s σ H xs us Q I r h
  obtain ⟨i, rfl, hz, q⟩ := h
  obtain ⟨u, rfl, t, rfl⟩ := vals1 r
  exact PySem.P.str_of_int hz ⟨.str _, H, I.tok _, ⟨_, rfl⟩, q⟩
theorem call_ord : CallR X (.builtin "ord") (fun xs H Q => ∃ x, xs = [.str x] ∧ x.length = 1 ∧ Q (.int (x.cps.getD 0 0 : Nat)) H) := by
  intro pins s σ H xs us Q I r h
  obtain ⟨x, rfl, hz, q⟩ := h
  obtain ⟨u, rfl, t, rfl⟩ := vals1 r
  exact ord_of_one hz ⟨.int _, H, I.tok _, ⟨_, rfl⟩, q⟩
theorem call_chr : CallR X (.builtin "chr") (fun xs H Q => ∃ i, xs = [.int i] ∧ 0 ≤ i ∧ i ≤ 1114111 ∧ Q (.str ⟨#[i.toNat]⟩) H) := by
  intro pins s σ H xs us Q I r h
  obtain ⟨i, rfl, h0, h1, q⟩ := h
  obtain ⟨u, rfl, t, rfl⟩ := vals1 r
  exact chr_of_range h0 h1 ⟨.str _, H, I.tok _, ⟨_, rfl⟩, q⟩
/-- len of a str, a bytes, a list, a tuple -/
def LenV (K : PySem.W.Frag) (x : V) (H : Hp) (n : Nat) : Prop :=
  match x with
  | .str y => y.length ≤ sizeLine ∧ n = y.length
  | .byt y => y.size ≤ sizeLine ∧ n = y.size
  | .ref p => (∃ xs, SqL K H p xs ∧ n = xs.length) ∨ ∃ xs, SqT K H p xs ∧ n = xs.length
  | _ => False
theorem call_len : CallR X (.builtin "len") (fun xs H Q => ∃ x n, xs = [x] ∧ LenV X.K x H n ∧ Q (.int n) H) := by
  intro pins s σ H xs us Q I r h
  obtain ⟨x, n, rfl, e, q⟩ := h
  obtain ⟨u, rfl, rx⟩ := vals1 r
  have hl := line63
  have hs : sizeLine = 16777216 := sizeLine_eq
  cases x with
  | str y =>
    obtain ⟨t, rfl⟩ := rx
    obtain ⟨hy, e'⟩ : y.length ≤ sizeLine ∧ n = y.length := e
    subst e'
    exact len_str (by omega) ⟨.int _, H, I.tok _, ⟨_, rfl⟩, q⟩
  | byt y =>
    obtain ⟨t, rfl⟩ := rx
    obtain ⟨hy, e'⟩ : y.size ≤ sizeLine ∧ n = y.size := e
    subst e'
    exact PySem.W.len_bytes (by omega) ⟨.int _, H, I.tok _, ⟨_, rfl⟩, q⟩
  | ref p =>
    cases rx
    have e' : (∃ xs, SqL X.K H p xs ∧ n = xs.length) ∨ ∃ xs, SqT X.K H p xs ∧ n = xs.length := e
    rcases e' with ⟨xs, hx, e'⟩ | ⟨xs, hx, e'⟩
    · subst e'
      obtain ⟨its, r', pl, hz⟩ := I.list hx
      have hlen := r'.length
      exact Calls.call_len_list pl.isList (by simp only [List.size_toArray]; omega) ⟨.int xs.length, H, I.tok _, ⟨_, by simp only [List.size_toArray]; rw [hlen]⟩, q⟩
    · subst e'
      obtain ⟨its, r', pl, hz⟩ := I.tuple hx
      have hlen := r'.length
      exact len_tuple pl (by simp only [List.size_toArray]; omega) ⟨.int xs.length, H, I.tok _, ⟨_, by simp only [List.size_toArray]; rw [hlen]⟩, q⟩
  | _ => exact (show False from e).elim
/-- divmod: a new tuple -/
theorem call_divmod : CallR X (.builtin "divmod") (fun xs H Q => ∃ i j, xs = [.int i, .int j] ∧ CDiv i j ∧ ∀ p, H p = none → Q (.ref p) (upd H p (.tup [.int (i / j), .int (i % j)]))) := by
  intro pins s σ H xs us Q I r h
  obtain ⟨i, j, rfl, ⟨h1, h2⟩, q⟩ := h
  obtain ⟨u, w', rfl, ⟨t, rfl⟩, ⟨t', rfl⟩⟩ := vals2 r
  refine divmod_int (by omega) ?_ (.inl (PyProof.noPylong_small (by omega)))
  rw [Int.fdiv_eq_ediv_of_nonneg i (by omega), Int.fmod_eq_emod_of_nonneg i (by omega)]
  have hn : H s.heap.objs.size = none := I.hok.fresh (Nat.le_refl _)
  refine ⟨.ref s.heap.objs.size, _, ?_, rfl, q _ hn⟩
  refine I.laid (fun b o e => Heap.get?_push_of_some _ e) (Nat.le_refl _) ⟨by simp only [List.length_cons, List.length_nil]; rw [sizeLine_eq]; decide, [.int (i / j) s.toks, .int (i % j) (s.toks + 1)], .cons ⟨_, rfl⟩ (.cons ⟨_, rfl⟩ .nil), ?_⟩
  exact ⟨_, Heap.get?_push_size s.heap rfl, rfl, 0, rfl⟩
end
end L2

namespace L2
open PySem PySem.Spec PyProof.Rows

/-! ### an instance, its attributes a map -/
structure ObjM (h : Heap) (x dx C : Addr) (mA : Str → Option Value) : Prop where
  obj : h.get? x = some (PySem.W.instObj C dx)
  ns : h.Ns1 dx mA
  ne : dx ≠ x

theorem lookIn_ns {h : Heap} {dx : Addr} {mA : Str → Option Value} (n : h.Ns1 dx mA) : ∃ od, h.get? dx = some od ∧ ∀ name, PySem.W.lookIn name od = some (mA name) := by
  obtain ⟨o, es, ep, ho, hd, hk, _, hm⟩ := n
  refine ⟨o, ho, fun name => ?_⟩
  have e := hm name
  unfold nsFind findBy at e
  rw [← Array.find?_toList] at e
  unfold PySem.W.lookIn
  rw [hd]
  dsimp only
  split
  · rename_i y q
    rw [q] at e
    exact congrArg some e
  · rename_i q
    rw [q] at e
    have a : es.toList.any (·.refKey) = false := by
      rw [List.any_eq_false]
      intro y hy
      obtain ⟨z, t, hkey⟩ := hk y (Array.mem_toList_iff.mp hy)
      simp [DictEntry.refKey, hkey]
    have a' : ¬ es.toList.any (·.refKey) = true := by rw [a]; exact Bool.false_ne_true
    rw [if_neg a']
    exact congrArg some e

theorem ObjM.look {h : Heap} {x dx C : Addr} {mA : Str → Option Value} (I : ObjM h x dx C mA) : ∃ od, PySem.W.InstAt h x (PySem.W.instObj C dx) C (some od) ∧ ∀ name, PySem.W.lookIn name od = some (mA name) :=
  let ⟨od, ho, hl⟩ := lookIn_ns I.ns
  ⟨od, ⟨I.obj, rfl, rfl, ho⟩, hl⟩

section
variable {prog : Program} {w : World} {A : Around} {E : Value → Shared → Prop} {s : Shared} {K : PySem.W.Frag} {x dx C f : Addr} {mA : Str → Option Value} {name : Str} {v : Value}

theorem get_map {expr : Bool} {Q : Value → Shared → Prop} (X : K.In s.heap) (I : ObjM s.heap x dx C mA) (hg : PySem.W.plainGet K C name = true) (hh : PySem.W.hasDictIn K C = true)
    (ha : PySem.W.findIn K (.ref C) name = some none) (hv : mA name = some v) (hv' : PySem.W.handedIn v = true) (h : Q v { s with toks := s.toks + 1 }) :
    wpAny (model prog w) A (getAttr (.ref x) name expr) Q E s := by
  obtain ⟨od, J, hl⟩ := I.look
  exact PySem.W.get_value X J (PySem.W.plainGet_of hg).1 (PySem.W.findObj_own hh ha rfl (by rw [hl, hv])) hv' h

theorem get_const {expr : Bool} {a : Value} {Q : Value → Shared → Prop} (X : K.In s.heap) (I : ObjM s.heap x dx C mA) (hg : PySem.W.plainGet K C name = true) (hh : PySem.W.hasDictIn K C = true)
    (ha : PySem.W.findIn K (.ref C) name = some (some a)) (hn : PySem.W.specialIn K a "__get__" = some none) (hc : PySem.W.copiedNames.contains name = false) (hv : mA name = none) (hv' : PySem.W.handedIn a = true)
    (h : Q a { s with toks := s.toks + 1 }) : wpAny (model prog w) A (getAttr (.ref x) name expr) Q E s := by
  obtain ⟨od, J, hl⟩ := I.look
  exact PySem.W.get_value X J (PySem.W.plainGet_of hg).1 (PySem.W.findObj_cls hh ha hn hv' hc (by rw [hl, hv])) hv' h

theorem get_meth {pl : Sem Bool} {Q : Value × List Value → Shared → Prop} (X : K.In s.heap) (I : ObjM s.heap x dx C mA) (hg : PySem.W.plainGet K C name = true)
    (hf : PySem.W.findIn K (.ref C) name = some (some (.ref f))) (ht : PySem.W.isFn K (.ref f) = true) (hv : mA name = none) (h : Q (.ref f, [.ref x]) s) :
    wpAny (model prog w) A (getMethod (.ref x) name pl) Q E s := by
  obtain ⟨od, J, hl⟩ := I.look
  exact PySem.W.method_fn X J (PySem.W.plainGet_of hg).1 (PySem.W.plainGet_of hg).2 hf (beq_iff_eq.mp ht) (by show (PySem.W.lookIn name od).map (·.isSome) = some false; rw [hl, hv]; rfl) h

theorem set_map {ns : List Str} {Q : Unit → Shared → Prop} (X : K.In s.heap) (I : ObjM s.heap x dx C mA)
    (hs : PySem.W.findIn K (.ref C) "__setattr__" = some (some (.builtin "object.__setattr__"))) (hp : PySem.W.plainOver K C = true) (ht : PySem.W.takerIn K C name = some none) (hh : PySem.W.hasDictIn K C = true)
    (hw : PySem.Within mA ns) (hsz : ns.length ≤ sizeLine)
    (h : ∀ h', ObjM h' x dx C (fun y => if y = name then some v else mA y) → Heap.SameBut dx s.heap h' → Q () { s with heap := h', toks := s.toks + 2 }) :
    wpAny (model prog w) A (setAttr (.ref x) name v) Q E s := by
  obtain ⟨od, J, hl⟩ := I.look
  refine PySem.W.set_plain X J hs (PySem.W.osa_open (s := { s with toks := s.toks + 1 }) (r := none) X J hp ht fun b => ?_)
  obtain ⟨cd, hc, hd'⟩ := PySem.W.any_some hh
  have hx : s.heap.get? x = some ⟨.ref C, some dx, .plain, #[]⟩ := I.obj
  refine wpAny_bind (wpAny_pure (wpAny_bind (wpAny_bind (wpAny_loadPart hx (wpAny_bind (PySem.W.Looks.here (s := { s with toks := s.toks + 1 }) (PySem.W.looks_clsIn X hc) ?_))))))
  rw [hd']
  refine wpAny_pure (a := some dx) (wpAny_bind (wpAny_pure (wpAny_bind ?_)))
  refine wpAny_nsSet1 (s := { s with toks := s.toks + 1 }) I.ns fun h' hn2 hs2 => ?_
  obtain ⟨oD, esD, epD, hoD, hdD, hcD⟩ := hn2.count (PySem.Within.cons name v hw)
  refine wpAny_bind (wpAny_lookBehind hoD (by rw [hdD]; exact pastItsLine_dict (Nat.le_trans hcD (by rw [List.length_cons]; omega))) ?_)
  exact wpAny_pure (h _ ⟨(hs2.2 _ (Ne.symm I.ne)).trans I.obj, hn2, I.ne⟩ hs2)

/-- C(..): the dict at the heap's end, the instance behind it; then its __init__ -/
theorem make_map {R : Result → Shared → Prop} {vs : List Value} {kw : List (Str × Value)} (X : K.In s.heap) (hm : PySem.W.makesIn K C = true)
    (hi : PySem.W.findIn K (.ref C) "__init__" = some (some (.ref f))) (hf : PySem.W.typeIn K (.ref f) = some (.type "function"))
    (h : codeAny (model prog w) (A.under (.builtin "type.__call__" ⟨.ref C :: vs, kw⟩)) (.call (.ref f) ⟨.ref (s.heap.objs.size + 1) :: vs, kw⟩) (PySem.W.InitBack (s.heap.objs.size + 1) R)
      { s with heap := (s.heap.push PySem.W.emptyDict).push (PySem.W.instObj C s.heap.objs.size) }) :
    codeAny (model prog w) A (.call (.ref C) ⟨vs, kw⟩) R s := by
  obtain ⟨hh, g, d, t, os⟩ := s
  exact PySem.W.make_core (PySem.W.makes_of X hm) (PySem.W.looks_findIn X hi) (fun self => PySem.W.bind_fn X self hf) (.inl rfl) h
/-- C() where there is no __init__ but object's -/
theorem make_map0 {R : Result → Shared → Prop} (X : K.In s.heap) (hm : PySem.W.makesIn K C = true)
    (hi : PySem.W.findIn K (.ref C) "__init__" = some (some (.builtin "object.__init__")))
    (hb : ∀ self, PySem.W.Looks (model prog w) s.heap (bindSpecial (.builtin "object.__init__") self) (.builtin "object.__init__", [self]))
    (h : codeAny (model prog w) (A.under (.builtin "type.__call__" ⟨[.ref C], []⟩)) (.call (.builtin "object.__init__") ⟨[.ref (s.heap.objs.size + 1)], []⟩) (PySem.W.InitBack (s.heap.objs.size + 1) R)
      { s with heap := (s.heap.push PySem.W.emptyDict).push (PySem.W.instObj C s.heap.objs.size) }) :
    codeAny (model prog w) A (.call (.ref C) ⟨[], []⟩) R s := by
  obtain ⟨hh, g, d, t, os⟩ := s
  exact PySem.W.make_core (PySem.W.makes_of X hm) (PySem.W.looks_findIn X hi) hb (.inr ⟨rfl, rfl⟩) h
end

/-! ### the attributes as a list of pairs -/
def putF (f : Str) (v : V) : List (Str × V) → List (Str × V)
  | [] => [(f, v)]
  | (g, x) :: r => if g = f then (g, v) :: r else (g, x) :: putF f v r
theorem lookup_putF (f g : Str) (v : V) : ∀ fs : List (Str × V), (putF f v fs).lookup g = if g = f then some v else fs.lookup g
  | [] => by
    show List.lookup g [(f, v)] = _
    by_cases h : g = f
    · have hb : (g == f) = true := beq_iff_eq.mpr h
      simp only [List.lookup, hb, if_pos h]
    · have hb : (g == f) = false := beq_eq_false_iff_ne.mpr h
      simp only [List.lookup, hb, if_neg h]
  | (k, x) :: r => by
    have ih := lookup_putF f g v r
    rw [show putF f v ((k, x) :: r) = (if k = f then (k, v) :: r else (k, x) :: putF f v r) from rfl]
    by_cases hk : k = f
    · rw [if_pos hk]
      by_cases h : g = k
      · have hb : (g == k) = true := beq_iff_eq.mpr h
        simp only [List.lookup, hb, if_pos (h.trans hk)]
      · have hb : (g == k) = false := beq_eq_false_iff_ne.mpr h
        simp only [List.lookup, hb, if_neg (fun e : g = f => h (e.trans hk.symm))]
    · rw [if_neg hk]
      by_cases h : g = k
      · have hb : (g == k) = true := beq_iff_eq.mpr h
        simp only [List.lookup, hb, if_neg (fun e : g = f => hk (h.symm.trans e))]
      · have hb : (g == k) = false := beq_eq_false_iff_ne.mpr h
        simp only [List.lookup, hb]
        exact ih
theorem keys_putF (f : Str) (v : V) : ∀ fs : List (Str × V), f ∈ (putF f v fs).map (·.1) ∧ ∀ g, g ∈ fs.map (·.1) → g ∈ (putF f v fs).map (·.1)
  | [] => ⟨by simp [putF], fun g h => by simp at h⟩
  | (k, x) :: r => by
    obtain ⟨i1, i2⟩ := keys_putF f v r
    rw [show putF f v ((k, x) :: r) = (if k = f then (k, v) :: r else (k, x) :: putF f v r) from rfl]
    by_cases hk : k = f
    · rw [if_pos hk]
      subst hk
      exact ⟨by simp, fun g h => by simpa using h⟩
    · rw [if_neg hk]
      refine ⟨?_, fun g h => ?_⟩
      · rw [List.map_cons]
        exact List.mem_cons_of_mem _ i1
      · rw [List.map_cons] at h ⊢
        rcases List.mem_cons.mp h with e | e
        · exact List.mem_cons.mpr (.inl e)
        · exact List.mem_cons_of_mem _ (i2 g e)
theorem length_putF (f : Str) (v : V) : ∀ fs : List (Str × V), (putF f v fs).length ≤ fs.length + 1
  | [] => by simp [putF]
  | (k, x) :: r => by
    have ih := length_putF f v r
    rw [show putF f v ((k, x) :: r) = (if k = f then (k, v) :: r else (k, x) :: putF f v r) from rfl]
    by_cases hk : k = f
    · rw [if_pos hk, List.length_cons, List.length_cons]; omega
    · rw [if_neg hk, List.length_cons, List.length_cons]; omega

theorem RelO.some_of {v : V} {o : Option Value} (r : RelO (some v) o) : ∃ u, o = some u ∧ RelV v u := by
  cases o with
  | none => exact (show False from r).elim
  | some u => exact ⟨u, rfl, r⟩
theorem RelO.none_of {o : Option Value} (r : RelO none o) : o = none := by
  cases o with
  | none => rfl
  | some u => exact (show False from r).elim
theorem handed_of {v : V} {u : Value} (r : RelV v u) : PySem.W.handedIn u = true := by
  cases v with
  | non => cases (show u = Value.none from r); rfl
  | bl b => cases (show u = Value.bool b from r); rfl
  | int i => obtain ⟨t, e⟩ := (show ∃ t, u = Value.int i t from r); cases e; rfl
  | str x => obtain ⟨t, e⟩ := (show ∃ t, u = Value.str x t from r); cases e; rfl
  | byt b => obtain ⟨t, e⟩ := (show ∃ t, u = Value.bytes b t from r); cases e; rfl
  | flt b => obtain ⟨t, e⟩ := (show ∃ t, u = Value.float b t from r); cases e; rfl
  | ref a => cases (show u = Value.ref a from r); rfl
  | ty n => cases (show u = Value.type n from r); rfl

section
variable {P : Program} {w : World} {H H' : Hp} {h h' : Heap} {a C dx : Addr} {fs fs' : List (Str × V)}
theorem ins_get (hok : HOk P w H h) (e : H a = some (.ins C dx fs)) : ∃ mA, ObjM h a dx C mA ∧ (∀ f, RelO (fs.lookup f) (mA f)) ∧ PySem.Within mA (fs.map (·.1)) ∧ fs.length ≤ 1000 ∧ H dx = some (.own a) := by
  obtain ⟨d, z, ne, ob, mA, n, r, q⟩ := (show ObjOk P w H h a (.ins C dx fs) from hok a _ e)
  exact ⟨mA, ⟨ob, n, ne⟩, r, q, z, d⟩
end

/-! ### what of the text a class must have -/
structure Cls (K : PySem.W.Frag) (C : Addr) : Prop where
  pg : PySem.W.plainGet K C Str.empty = true
  hd : PySem.W.hasDictIn K C = true
  po : PySem.W.plainOver K C = true
  sa : PySem.W.findIn K (.ref C) "__setattr__" = some (some (.builtin "object.__setattr__"))
theorem Cls.get {K : PySem.W.Frag} {C : Addr} (c : Cls K C) (f : Str) : PySem.W.plainGet K C f = true := c.pg
/-- no class of it has the name -/
def NoAttr (K : PySem.W.Frag) (C : Addr) (f : Str) : Prop := PySem.W.findIn K (.ref C) f = some none
theorem NoAttr.taker {K : PySem.W.Frag} {C : Addr} {f : Str} (n : NoAttr K C f) : PySem.W.takerIn K C f = some none := by
  unfold PySem.W.takerIn
  rw [show PySem.W.findIn K (.ref C) f = some none from n]
  rfl
/-- a constant of the class -/
structure Con (K : PySem.W.Frag) (C : Addr) (f : Str) (v : V) (u : Value) : Prop where
  at_ : PySem.W.findIn K (.ref C) f = some (some u)
  rel : RelV v u
  get : PySem.W.specialIn K u "__get__" = some none
  cp : PySem.W.copiedNames.contains f = false
/-- a method: a plain def of the class or of one above it -/
structure Meth (K : PySem.W.Frag) (C : Addr) (m : Str) (f : Addr) : Prop where
  at_ : PySem.W.findIn K (.ref C) m = some (some (.ref f))
  fn : PySem.W.isFn K (.ref f) = true
  kp : PySem.W.keepIn K (.ref f) = true

section
variable {X : Cx} {pins : List (Addr × Obj)} {σ : St} {H : Hp} {s : Shared} {a C dx : Addr} {fs : List (Str × V)} {f : Str} {v : V} {A : Around} {E : Value → Shared → Prop}

theorem getattr_ok {b : Bool} {Q : Value → Shared → Prop} (I : Inv X pins σ H s) (e : H a = some (.ins C dx fs)) (c : Cls X.K C) (n : NoAttr X.K C f) (l : fs.lookup f = some v)
    (h : ∀ u s', Inv X pins σ H s' → RelV v u → Q u s') : wpAny (model X.prog X.w) A (getAttr (.ref a) f b) Q E s := by
  obtain ⟨mA, O, r, _, _, _⟩ := ins_get I.hok e
  obtain ⟨u, hu, ru⟩ := RelO.some_of (v := v) (o := mA f) (by rw [← l]; exact r f)
  exact get_map I.kIn O (c.get f) c.hd n hu (handed_of ru) (h u _ (I.tok _) ru)

theorem getcon_ok {b : Bool} {u : Value} {Q : Value → Shared → Prop} (I : Inv X pins σ H s) (e : H a = some (.ins C dx fs)) (c : Cls X.K C) (k : Con X.K C f v u) (l : fs.lookup f = none)
    (h : ∀ s', Inv X pins σ H s' → Q u s') : wpAny (model X.prog X.w) A (getAttr (.ref a) f b) Q E s := by
  obtain ⟨mA, O, r, _, _, _⟩ := ins_get I.hok e
  have hn : mA f = none := RelO.none_of (by rw [← l]; exact r f)
  exact get_const I.kIn O (c.get f) c.hd k.at_ k.get k.cp hn (handed_of k.rel) (h _ (I.tok _))

theorem getmeth_ok {m : Str} {g : Addr} {pl : Sem Bool} {Q : Value × List Value → Shared → Prop} (I : Inv X pins σ H s) (e : H a = some (.ins C dx fs)) (c : Cls X.K C) (k : Meth X.K C m g) (l : fs.lookup m = none)
    (h : Q (.ref g, [.ref a]) s) : wpAny (model X.prog X.w) A (getMethod (.ref a) m pl) Q E s := by
  obtain ⟨mA, O, r, _, _, _⟩ := ins_get I.hok e
  have hn : mA m = none := RelO.none_of (by rw [← l]; exact r m)
  exact get_meth I.kIn O (c.get m) k.at_ k.fn hn h

theorem setattr_ok {y : V} {u : Value} {Q : Unit → Shared → Prop} (I : Inv X pins σ H s) (e : H a = some (.ins C dx fs)) (c : Cls X.K C) (n : NoAttr X.K C f) (hl : fs.length < 1000) (ry : RelV y u)
    (h : ∀ s', Inv X pins σ (upd H a (.ins C dx (putF f y fs))) s' → Q () s') : wpAny (model X.prog X.w) A (setAttr (.ref a) f u) Q E s := by
  obtain ⟨mA, O, r, wi, _, ho⟩ := ins_get I.hok e
  have hz : (fs.map (·.1)).length ≤ sizeLine := by rw [List.length_map, sizeLine_eq]; omega
  refine set_map I.kIn O c.sa c.po n.taker c.hd wi hz fun h' O' sb => h _ ?_
  have hd : ∃ o, h'.get? dx = some o := let ⟨o, _, _, e', _⟩ := O'.ns; ⟨o, e'⟩
  refine I.write (x := a) (e := dx) (by rw [e]; exact True.intro) (.inr ho) (fun b q hb z => (sb.2 b hb).trans z) hd ?_
  refine ⟨by rw [upd_ne O.ne]; exact ho, ?_, O.ne, O'.obj, _, O'.ns, fun g => ?_, fun g hg => ?_⟩
  · have := length_putF f y fs; omega
  · show RelO ((putF f y fs).lookup g) (if g = f then some u else mA g)
    rw [lookup_putF]
    by_cases q : g = f
    · rw [if_pos q, if_pos q]; exact ry
    · rw [if_neg q, if_neg q]; exact r g
  · by_cases q : g = f
    · rw [q]; exact (keys_putF f y fs).1
    · refine (keys_putF f y fs).2 g (wi g fun z => hg ?_)
      show (if g = f then some u else mA g) = none
      rw [if_neg q]; exact z

/-- a new instance, tracked, without attributes -/
theorem Inv.made (I : Inv X pins σ H s) : Inv X pins σ (upd (upd H s.heap.objs.size (.own (s.heap.objs.size + 1))) (s.heap.objs.size + 1) (.ins C s.heap.objs.size []))
    { s with heap := (s.heap.push PySem.W.emptyDict).push (PySem.W.instObj C s.heap.objs.size) } := by
  have e1 : (s.heap.push PySem.W.emptyDict).get? s.heap.objs.size = some PySem.W.emptyDict := Heap.get?_push_size s.heap rfl
  have e2 : ((s.heap.push PySem.W.emptyDict).push (PySem.W.instObj C s.heap.objs.size)).get? (s.heap.objs.size + 1) = some (PySem.W.instObj C s.heap.objs.size) := by
    have := Heap.get?_push_size (s.heap.push PySem.W.emptyDict) (o := PySem.W.instObj C s.heap.objs.size) rfl
    rwa [Heap.size_push] at this
  have e3 : (s.heap.push PySem.W.emptyDict).Ns s.heap.objs.size (fun _ => none) := ⟨PySem.W.emptyDict, #[], _, e1, rfl, (fun e he => absurd he (by simp)), fun _ => rfl⟩
  have I1 := I.laid (a := s.heap.objs.size) (o := .own (s.heap.objs.size + 1)) (h' := s.heap.push PySem.W.emptyDict) (t' := s.toks) (fun b u q => Heap.get?_push_of_some _ q) (Nat.le_refl _) ⟨_, e1⟩
  refine I1.laid (a := s.heap.objs.size + 1) (o := .ins C s.heap.objs.size []) (t' := s.toks) (fun b u q => Heap.get?_push_of_some _ q) (Nat.le_of_eq (Heap.size_push _ _)) ?_
  have ne : s.heap.objs.size ≠ s.heap.objs.size + 1 := Nat.ne_of_lt (Nat.lt_succ_self _)
  refine ⟨by rw [upd_ne ne, upd_same], Nat.zero_le _, ne, e2, fun _ => none, (Heap.Ns1.of_empty e3).at fun o q => Heap.get?_push_of_some _ q, fun _ => True.intro, fun y hy => absurd rfl hy⟩

/-- e.f where nothing but the object is asked: through attributeBase (super) and the last hold -/
theorem attr_of {prog : Program} {w : World} {env : Env} {e : Expr} {f : Str} {pos : Pos} {s : Shared} {Q : Value → Shared → Prop} (hb : attributeBase e f env (eval e env) = eval e env)
    (h : wpAny (model prog w) A (eval e env) (fun o s₁ => wpAny (model prog w) A (getAttr o f true) Q E s₁) E s) : wpAny (model prog w) A (eval (.Attribute e f pos) env) Q E s :=
  Attribute_any_ h (by rw [arm_eval_Attribute, hb])
end

/-! ### readings and rules -/
/-- e.f, an attribute of the instance -/
def tFld (K : PySem.W.Frag) (ta : TE) (f : Str) : TE := fun σ H Q => ta σ H fun x H1 => ∃ a C dx fs v, x = .ref a ∧ H1 a = some (.ins C dx fs) ∧ Cls K C ∧ NoAttr K C f ∧ fs.lookup f = some v ∧ Q v H1
/-- e.f, a constant of the class -/
def tCon (K : PySem.W.Frag) (ta : TE) (f : Str) : TE := fun σ H Q => ta σ H fun x H1 => ∃ a C dx fs v u, x = .ref a ∧ H1 a = some (.ins C dx fs) ∧ Cls K C ∧ Con K C f v u ∧ fs.lookup f = none ∧ Q v H1
/-- e.f = value -/
def sFld (K : PySem.W.Frag) (ta tv : TE) (f : Str) : TS := fun D σ H => tv σ H fun y H1 => ta σ H1 fun x H2 => ∃ a C dx fs, x = .ref a ∧ H2 a = some (.ins C dx fs) ∧ Cls K C ∧ NoAttr K C f ∧ fs.length < 1000 ∧
  D.nx σ (upd H2 a (.ins C dx (putF f y fs)))
/-- an augmented operator on two values -/
def InOp (X : Cx) (op : Operator) (rd : V → V → Hp → VK → Prop) : Prop :=
  ∀ (pins : List (Addr × Obj)) (s : Shared) (σ : St) (H : Hp) (x y : V) (u v : Value) (Q : VK), Inv X pins σ H s → RelV x u → RelV y v → rd x y H Q → wpAny (model X.prog X.w) X.A (inplaceOp op u v) (EP X pins σ Q) X.xe s
/-- e.f op= value -/
def sFldAug (K : PySem.W.Frag) (ta tv : TE) (rd : V → V → Hp → VK → Prop) (f : Str) : TS := fun D σ H => ta σ H fun x H1 => ∃ a C dx fs v, x = .ref a ∧ H1 a = some (.ins C dx fs) ∧ Cls K C ∧ NoAttr K C f ∧ fs.lookup f = some v ∧
  tv σ H1 fun y H2 => rd v y H2 fun z H3 => ∃ dx' fs', H3 a = some (.ins C dx' fs') ∧ fs'.length < 1000 ∧ D.nx σ (upd H3 a (.ins C dx' (putF f z fs')))

section
variable {X : Cx} {o e value : Expr} {f : Str} {pos pos' tpos : Pos} {ta tv : TE}
theorem pe_fld (he : PE X e ta) (hb : attributeBase e f X.env (eval e X.env) = eval e X.env) : PE X (.Attribute e f pos) (tFld X.K ta f) := by
  intro pins s σ H Q I h
  refine attr_of hb (thn (he pins s σ H _ I h) fun u s1 ⟨x, H1, I1, rx, a, C, dx, fs, v, ex, ea, c, n, l, q⟩ => ?_)
  subst ex
  obtain rfl : u = Value.ref a := rx
  exact getattr_ok I1 ea c n l fun u' s2 I2 ru => ⟨v, H1, I2, ru, q⟩
theorem pe_con (he : PE X e ta) (hb : attributeBase e f X.env (eval e X.env) = eval e X.env) : PE X (.Attribute e f pos) (tCon X.K ta f) := by
  intro pins s σ H Q I h
  refine attr_of hb (thn (he pins s σ H _ I h) fun u s1 ⟨x, H1, I1, rx, a, C, dx, fs, v, u0, ex, ea, c, k, l, q⟩ => ?_)
  subst ex
  obtain rfl : u = Value.ref a := rx
  exact getcon_ok I1 ea c k l fun s2 I2 => ⟨v, H1, I2, k.rel, q⟩
theorem ps_fld (ha : PE X o ta) (hv : PE X value tv) (hs : swapsWith value (some (.Attribute o f pos')) pos.line X.env = pure false) : PS X (.Assign [.Attribute o f pos'] value pos) (sFld X.K ta tv f) := by
  intro pins s σ H D I h
  refine plainObj_wpAny_Assign_Attribute (thn (hv pins s σ H _ I h) fun u s1 ⟨y, H1, I1, ry, q⟩ => thn (ha pins s1 σ H1 _ I1 q) fun ov s2 ⟨x, H2, I2, rx, a, C, dx, fs, ex, ea, c, n, l, q2⟩ => ?_) hs
  subst ex
  obtain rfl : ov = Value.ref a := rx
  exact setattr_ok I2 ea c n l ry fun s3 I3 => ⟨σ, _, I3, q2⟩
theorem ps_fldaug {op : Operator} {rd : V → V → Hp → VK → Prop} (ha : PE X o ta) (hv : PE X value tv) (hop : InOp X op rd) : PS X (.AugAssign (.Attribute o f tpos) op value pos) (sFldAug X.K ta tv rd f) := by
  intro pins s σ H D I h
  refine wpAny_AugAssign_AttributeAny (thn (ha pins s σ H _ I h) fun ov s1 ⟨x, H1, I1, rx, a, C, dx, fs, v, ex, ea, c, n, l, q⟩ => ?_)
  subst ex
  obtain rfl : ov = Value.ref a := rx
  refine getattr_ok I1 ea c n l fun u s2 I2 ru => thn (hv pins s2 σ H1 _ I2 q) fun w3 s3 ⟨y, H2, I3, ry, q3⟩ => thn (hop pins s3 σ H2 v y u w3 _ I3 ru ry q3) fun w4 s4 ⟨z, H3, I4, rz, dx', fs', ea', l', q4⟩ => ?_
  exact setattr_ok I4 ea' c n l' rz fun s5 I5 => ⟨σ, _, I5, q4⟩
def rAdd : V → V → Hp → VK → Prop := fun x y H Q => ∃ i j, x = .int i ∧ y = .int j ∧ Q (.int (i + j)) H
def rSub : V → V → Hp → VK → Prop := fun x y H Q => ∃ i j, x = .int i ∧ y = .int j ∧ Q (.int (i - j)) H
theorem in_add : InOp X .Add rAdd := by
  rintro pins s σ H x y u v Q I rx ry ⟨i, j, rfl, rfl, q⟩
  obtain ⟨t, rfl⟩ := (show ∃ t, u = Value.int i t from rx)
  obtain ⟨t', rfl⟩ := (show ∃ t', v = Value.int j t' from ry)
  exact PyProof.Rows.iadd_int ⟨.int (i + j), H, I.tok _, ⟨_, rfl⟩, q⟩
theorem in_sub : InOp X .Sub rSub := by
  rintro pins s σ H x y u v Q I rx ry ⟨i, j, rfl, rfl, q⟩
  obtain ⟨t, rfl⟩ := (show ∃ t, u = Value.int i t from rx)
  obtain ⟨t', rfl⟩ := (show ∃ t', v = Value.int j t' from ry)
  exact PyProof.Rows.isub_int ⟨.int (i - j), H, I.tok _, ⟨_, rfl⟩, q⟩

/-- what is between an instance and its method: the tree of a method call -/
theorem methcall_of {pl : Sem Bool} {m : Str} {apos : Pos} {args : List Expr} {pins : List (Addr × Obj)} {s : Shared} {σ : St} {H : Hp} {Q : Value → Shared → Prop} {te : TE} (he : PE X e te) (I : Inv X pins σ H s)
    (h : te σ H fun x H1 => ∃ a C dx fs g, x = .ref a ∧ H1 a = some (.ins C dx fs) ∧ Cls X.K C ∧ Meth X.K C m g ∧ fs.lookup m = none ∧
      ∀ s1, Inv X pins σ H1 s1 → wpAny (model X.prog X.w) X.A (callWith pos (.ref g) [.ref a] (backTo pos (starEach args X.env)) (backToKw pos (keywordEach [] X.env))) Q X.xe s1)
    (ht : eval (.Call (.Attribute e m apos) args [] pos) X.env = (do
      let ov ← eval e X.env
      standAt apos.atName
      let (f, first) ← holding [ov] (getMethod ov m pl)
      callWith pos f first (backTo pos (starEach args X.env)) (backToKw pos (keywordEach [] X.env)))) :
    wpAny (model X.prog X.w) X.A (eval (.Call (.Attribute e m apos) args [] pos) X.env) Q X.xe s := by
  refine PySem.W.methodCall_KW (pl := pl) (thn (he pins s σ H _ I h) fun u s1 ⟨x, H1, I1, rx, a, C, dx, fs, g, ex, ea, c, k, l, q⟩ => ?_) ht
  subst ex
  obtain rfl : u = Value.ref a := rx
  exact getmeth_ok I1 ea c k l (q s1 I1)
end

/-! ### isinstance -/
section
variable {X : Cx} {pins : List (Addr × Obj)} {σ : St} {H : Hp} {s : Shared} {A : Around} {E : Value → Shared → Prop} {Q : Value → Shared → Prop} {c : Value} {b : Bool}
/-- the type of a value, as the fragment's deciders take it; for an instance its class -/
inductive TyOf (K : PySem.W.Frag) (H : Hp) : V → Value → Prop where
  | non : TyOf K H .non (.type "NoneType")
  | bl (x : Bool) : TyOf K H (.bl x) (.type "bool")
  | int (i : Int) : TyOf K H (.int i) (.type "int")
  | str (x : Str) : TyOf K H (.str x) (.type "str")
  | flt (x : UInt64) : TyOf K H (.flt x) (.type "float")
  | lst {a : Addr} {xs : List V} (e : H a = some (.lst xs)) : TyOf K H (.ref a) (.type "list")
  | frz {a : Addr} {o : Obj} {xs : List V} (e : H a = some (.frz o (.lst xs))) : TyOf K H (.ref a) (.type "list")
  | tup {a : Addr} {xs : List V} (e : H a = some (.tup xs)) : TyOf K H (.ref a) (.type "tuple")
  | dK {a : Addr} {kvs : List (Key × V)} (e : H a = some (.dK kvs)) : TyOf K H (.ref a) (.type "dict")
  | dT {a : Addr} {kvs : List (List Key × V)} (e : H a = some (.dT kvs)) : TyOf K H (.ref a) (.type "dict")
  | ins {a C dx : Addr} {fs : List (Str × V)} (e : H a = some (.ins C dx fs)) (cl : Cls K C) (ha : PySem.W.findIn K (.ref C) "__class__" = some (some (.builtin "object.__class__")))
      (hn : PySem.W.specialIn K (.builtin "object.__class__") "__get__" = some (some (.builtin "getset_descriptor.__get__"))) (htk : PySem.W.takesIn K (.builtin "object.__class__") = some true)
      (hm : PySem.W.mroIn K C (.type "object") = some true) : TyOf K H (.ref a) (.ref C)
/-- isinstance(x, c) for one class c, a built-in or an own one: kitOne's answer -/
theorem isinst_ok {x : V} {u t : Value} (I : Inv X pins σ H s) (rx : RelV x u) (ty : TyOf X.K H x t) (e : PySem.W.kitOne X.K t c = some b) (h : ∀ tk, Q (.bool b) { s with toks := tk }) :
    wpAny (model X.prog X.w) A (call (.builtin "isinstance") [u, c]) Q E s := by
  cases ty with
  | non => cases (show u = Value.none from rx); exact PySem.W.kia_one PySem.W.kitx_none I.kIn True.intro e (fun z => nomatch z) h
  | bl y => cases (show u = Value.bool y from rx); exact PySem.W.kia_one PySem.W.kitx_bool I.kIn True.intro e (fun z => nomatch z) h
  | int i => obtain ⟨t, q⟩ := (show ∃ t, u = Value.int i t from rx); cases q; exact PySem.W.kia_one PySem.W.kitx_int I.kIn True.intro e (fun z => nomatch z) h
  | str y => obtain ⟨t, q⟩ := (show ∃ t, u = Value.str y t from rx); cases q; exact PySem.W.kia_one PySem.W.kitx_str I.kIn True.intro e (fun z => nomatch z) h
  | flt y => obtain ⟨t, q⟩ := (show ∃ t, u = Value.float y t from rx); cases q; exact PySem.W.kia_one PySem.W.kitx_float I.kIn True.intro e (fun z => nomatch z) h
  | @lst a xs ea =>
    cases (show u = Value.ref a from rx)
    obtain ⟨_, _, n, _, h1⟩ := (show ObjOk X.prog X.w H s.heap a (.lst xs) from I.hok a _ ea)
    exact PySem.W.kia_one PySem.W.kitx_list I.kIn ⟨_, h1, rfl⟩ e (fun z => nomatch z) h
  | @frz a ob xs ea =>
    cases (show u = Value.ref a from rx)
    obtain ⟨_, _, _, n, _, h1⟩ := (show ObjOk X.prog X.w H s.heap a (.frz ob (.lst xs)) from I.hok a _ ea)
    exact PySem.W.kia_one PySem.W.kitx_list I.kIn ⟨_, h1, rfl⟩ e (fun z => nomatch z) h
  | @tup a xs ea =>
    cases (show u = Value.ref a from rx)
    obtain ⟨_, _, _, p⟩ := (show ObjOk X.prog X.w H s.heap a (.tup xs) from I.hok a _ ea)
    obtain ⟨o, h1, h2, _⟩ := p
    exact PySem.W.kia_one PySem.W.kitx_tuple I.kIn ⟨o, h1, h2⟩ e (fun z => nomatch z) h
  | @dK a kvs ea =>
    cases (show u = Value.ref a from rx)
    obtain ⟨_, _, vs, _, p⟩ := (show ObjOk X.prog X.w H s.heap a (.dK kvs) from I.hok a _ ea)
    obtain ⟨o, es, ep, h1, h2, _⟩ := p
    exact PySem.W.kia_one PySem.W.kitx_dict I.kIn ⟨o, h1, h2.1⟩ e (fun z => nomatch z) h
  | @dT a kvs ea =>
    cases (show u = Value.ref a from rx)
    obtain ⟨_, _, xs, _, o, es, ep, h1, h2, _⟩ := (show ObjOk X.prog X.w H s.heap a (.dT kvs) from I.hok a _ ea)
    exact PySem.W.kia_one PySem.W.kitx_dict I.kIn ⟨o, h1, h2.1⟩ e (fun z => nomatch z) h
  | @ins a C dx fs ea cl ha hn htk hm =>
    cases (show u = Value.ref a from rx)
    obtain ⟨mA, O, _⟩ := ins_get I.hok ea
    obtain ⟨od, J, _⟩ := O.look
    exact PySem.W.kia_one (PySem.W.kitx_own (cl.get _) cl.hd ha hn htk hm) I.kIn J e (fun z => nomatch z) h
end
end L2

namespace L2
open PySem PySem.Spec PyProof.Rows

/-! ### room -/
structure Room (k : Nat) (A : Around) : Prop where
  hd : A.handled = none
  dp : A.depth + 3 * k + 5 < recursionLimit
  un : A.units + 16 * k + 200 < cLine
theorem Room.mono {j k : Nat} {A : Around} (r : Room k A) (h : j ≤ k) : Room j A := ⟨r.hd, by have := r.dp; omega, by have := r.un; omega⟩
theorem Room.deeper {k : Nat} {A : Around} (r : Room (k + 1) A) (env : Env) : Room k (A.deeper env) :=
  ⟨r.hd, by have := r.dp; show A.depth + 1 + 3 * k + 5 < _; omega, by have := r.un; show A.units + 3 + 16 * k + 200 < _; omega⟩
theorem Room.in1 {k : Nat} {A : Around} (r : Room (k + 1) A) : Room k A.in1 :=
  ⟨r.hd, by have := r.dp; show A.depth + 3 * k + 5 < _; omega, by have := r.un; show A.units + 1 + 16 * k + 200 < _; omega⟩
theorem make_depth {A : Around} {C : Addr} {us : List Value} {kw : List (Str × Value)} : (A.under (.builtin "type.__call__" ⟨.ref C :: us, kw⟩)).depth = A.depth + 1 := by
  first | rfl | simp [Around.under, Code.weight, Code.isCreation, Code.isGuard, Code.isCaller, Code.frames, Code.isFrame, guardIds]
theorem make_units {A : Around} {C : Addr} {us : List Value} {kw : List (Str × Value)} : (A.under (.builtin "type.__call__" ⟨.ref C :: us, kw⟩)).units = A.units + 1 := by
  first | rfl | simp [Around.under, Code.cUnits, Code.frames, Code.isFrame]
theorem Room.make {k : Nat} {A : Around} (r : Room (k + 1) A) (C : Addr) (us : List Value) (kw : List (Str × Value)) : Room k (A.under (.builtin "type.__call__" ⟨.ref C :: us, kw⟩)) :=
  ⟨r.hd, by have := r.dp; rw [make_depth]; omega, by have := r.un; rw [make_units]; omega⟩
theorem Room.depth {k : Nat} {A : Around} (r : Room k A) : A.depth < recursionLimit := by have := r.dp; omega
theorem Room.units {k : Nat} {A : Around} (r : Room k A) : A.units + 64 < cLine := by have := r.un; omega
theorem Room.units0 {k : Nat} {A : Around} (r : Room k A) : A.units < cLine := by have := r.un; omega

/-! ### argument lists and displays -/
def tNil : TA := fun _ H Q => Q [] H
def tCons (ta : TE) (tr : TA) : TA := fun σ H Q => ta σ H fun x H1 => tr σ H1 fun xs H2 => Q (x :: xs) H2
section
variable {X : Cx} {e : Expr} {es : List Expr} {te : TE} {t : TA} {pos : Pos}
theorem pa_nil : PA X [] tNil := fun _ _ _ _ H Q I h => Calls.spliced_nil ⟨[], H, I, .nil, h⟩
theorem pa_cons (ha : PE X e te) (hr : PA X es t) (hs : starEach (e :: es) X.env = (false, eval e X.env) :: starEach es X.env := by rfl) : PA X (e :: es) (tCons te t) := by
  intro pos pins s σ H Q I h
  rw [hs]
  show wpAny _ _ (spliced ((false, eval e X.env) :: backTo pos (starEach es X.env))) _ _ s
  refine Calls.spliced_cons (thn (ha pins s σ H _ I h) fun u s1 ⟨x, H1, I1, r1, q1⟩ => ?_)
  exact thn (hr pos pins s1 σ H1 _ I1 q1) fun us s2 ⟨xs, H2, I2, r2, q2⟩ => ⟨x :: xs, H2, I2, .cons r1 r2, q2⟩

/-- a tuple, a list of written items -/
def tTup (t : TA) : TE := fun σ H Q => t σ H fun xs H1 => xs.length ≤ sizeLine ∧ ∀ p, H1 p = none → Q (.ref p) (upd H1 p (.tup xs))
def tLst (t : TA) : TE := fun σ H Q => t σ H fun xs H1 => xs.length ≤ sizeLine ∧ ∀ p, H1 p = none → Q (.ref p) (upd H1 p (.lst xs))
theorem pe_tup {x1} (h : PA X es t) : PE X (.Tuple es x1 pos) (tTup t) := by
  intro pins s σ H Q I hq
  refine wpAny_Tuple_spliced (thn (h pos pins s σ H _ I hq) fun us s1 ⟨xs, H1, I1, r, z, q⟩ => ⟨by rw [← r.length]; exact z, ?_⟩)
  have hf : H1 s1.heap.objs.size = none := I1.hok.fresh (Nat.le_refl _)
  refine ⟨.ref s1.heap.objs.size, upd H1 s1.heap.objs.size (.tup xs), I1.laid (t' := s1.toks) (fun b u e => Heap.get?_push_of_some _ e) (Nat.le_refl _) ?_, rfl, q _ hf⟩
  exact ⟨z, us, r, ⟨_, Heap.get?_push_size _ rfl, rfl, _, rfl⟩⟩
theorem pe_lst (h : PA X es t) : PE X (.List es pos) (tLst t) := by
  intro pins s σ H Q I hq
  refine wpAny_List_spliced (thn (h pos pins s σ H _ I hq) fun us s1 ⟨xs, H1, I1, r, z, q⟩ => ⟨by rw [← r.length]; exact z, ?_⟩)
  have hf : H1 s1.heap.objs.size = none := I1.hok.fresh (Nat.le_refl _)
  refine ⟨.ref s1.heap.objs.size, upd H1 s1.heap.objs.size (.lst xs), I1.laid (t' := s1.toks) (fun b u e => Heap.get?_push_of_some _ e) (Nat.le_refl _) ?_, rfl, q _ hf⟩
  exact ⟨z, us, 0, r, Heap.get?_push_size _ rfl⟩
end

/-! ### what a def promises -/
/-- a def's promise: the bound arguments in the parameters' order, the heap, the wanted end, the wanted exception -/
abbrev Sp := List V → Hp → VK → XK → Prop
/-- how an exception lies behind a call (file 08 gives it): the callers' frames, abstract heap and state ahead of the call, the wish, the exception, the state -/
abbrev CXT := List Env → Hp → Shared → XK → Value → Shared → Prop

/-- the state at a call -/
structure Env0 (P : Program) (w : World) (K : PySem.W.Frag) (mg : Str → Option Value) (base : Heap) (A : Around) (outer : List Env) (s : Shared) (H : Hp) : Prop where
  frames : A.frames = some outer
  mod : Mod K mg base
  bs : ∀ b o, base.get? b = some o → s.heap.get? b = some o ∧ H b = none
  bsz : base.objs.size ≤ s.heap.objs.size
  funs : s.heap.FunFrames base outer
  frf : ∀ b ∈ frs outer, H b = none
  hok : HOk P w H s.heap
  bare : AllBare s.gens
/-- a call's end -/
def CE (outer : List Env) (P : Program) (w : World) (H : Hp) (s : Shared) (Q : VK) (u : Value) (s' : Shared) : Prop :=
  ∃ v H', s'.os = s.os ∧ AllBare s'.gens ∧ Un (frs outer) [] H H' s.heap s'.heap ∧ HOk P w H' s'.heap ∧ RelV v u ∧ Q v H'
def CR (CX : CXT) (outer : List Env) (P : Program) (w : World) (H : Hp) (s : Shared) (Q : VK) (E : XK) (r : Result) (s' : Shared) : Prop :=
  match r with
  | .ok (.ret u) => CE outer P w H s Q u s'
  | .ok _ => False
  | .error e => CX outer H s E e s'
structure FnOk (P : Program) (w : World) (K : PySem.W.Frag) (mg : Str → Option Value) (base : Heap) (CX : CXT) (k : Nat) (f : Addr) (fd : FuncData) (ps : List Str) (sp : Sp) : Prop where
  len : ∀ vs H Q E, sp vs H Q E → vs.length = ps.length
  run : ∀ (A : Around) (outer : List Env) (s : Shared) (H : Hp) (args : Args) (us : List Value) (vs : List V) (Q : VK) (E : XK), Room k A → Env0 P w K mg base A outer s H → BindsTo s fd args (ps.zip us) → Vals vs us → sp vs H Q E →
    codeAny (model P w) A (.call (.ref f) args) (CR CX outer P w H s Q E) s
theorem FnOk.mono {P : Program} {w : World} {K : PySem.W.Frag} {mg : Str → Option Value} {base : Heap} {CX : CXT} {j k : Nat} {f : Addr} {fd : FuncData} {ps : List Str} {sp : Sp} (F : FnOk P w K mg base CX j f fd ps sp) (h : j ≤ k) :
    FnOk P w K mg base CX k f fd ps sp := ⟨F.len, fun A outer s H args us vs Q E hr => F.run A outer s H args us vs Q E (hr.mono h)⟩
/-- a weaker promise -/
theorem FnOk.imp {P : Program} {w : World} {K : PySem.W.Frag} {mg : Str → Option Value} {base : Heap} {CX : CXT} {k : Nat} {f : Addr} {fd : FuncData} {ps : List Str} {sp sp' : Sp} (F : FnOk P w K mg base CX k f fd ps sp)
    (h : ∀ vs H Q E, sp' vs H Q E → sp vs H Q E) : FnOk P w K mg base CX k f fd ps sp' :=
  ⟨fun vs H Q E q => F.len vs H Q E (h _ _ _ _ q), fun A outer s H args us vs Q E hr he hb hv hs => F.run A outer s H args us vs Q E hr he hb hv (h _ _ _ _ hs)⟩

theorem Env0.make {P : Program} {w : World} {K : PySem.W.Frag} {mg : Str → Option Value} {base : Heap} {A : Around} {outer : List Env} {s : Shared} {H : Hp} (e : Env0 P w K mg base A outer s H) (C : Addr) (us : List Value) (kw : List (Str × Value)) :
    Env0 P w K mg base (A.under (.builtin "type.__call__" ⟨.ref C :: us, kw⟩)) outer s H := ⟨by first | exact e.frames | (simpa [Around.under, Code.envs, Code.isFrame, pushEnvs] using e.frames), e.mod, e.bs, e.bsz, e.funs, e.frf, e.hok, e.bare⟩
theorem Env0.in1 {P : Program} {w : World} {K : PySem.W.Frag} {mg : Str → Option Value} {base : Heap} {A : Around} {outer : List Env} {s : Shared} {H : Hp} (e : Env0 P w K mg base A outer s H) :
    Env0 P w K mg base A.in1 outer s H := ⟨e.frames, e.mod, e.bs, e.bsz, e.funs, e.frf, e.hok, e.bare⟩

section
variable {X : Cx} {pins : List (Addr × Obj)} {σ : St} {H : Hp} {s s' : Shared}
/-- from a body: what a callee wants -/
theorem Inv.env0 (I : Inv X pins σ H s) : Env0 X.prog X.w X.K X.mg X.base X.A X.stack s H :=
  ⟨I.ok.frames, I.ok.mod, I.bs, Nat.le_trans I.ok.bsz I.sz, I.stack, I.stkFree, I.hok, I.bare⟩
/-- behind a call -/
theorem Inv.after {Q : VK} {u : Value} (I : Inv X pins σ H s) (h : CE X.stack X.prog X.w H s Q u s') : EP X pins σ Q u s' := by
  obtain ⟨v, H', os, bare, un, hok, r, q⟩ := h
  obtain ⟨hh, g, d, t, os'⟩ := s'
  obtain rfl : os' = s.os := os
  exact ⟨v, H', I.call (h' := hh) (g' := g) (d' := d) (t' := t) (ch := []) un hok bare (fun b z => absurd z (by simp)), r, q⟩
end

/-! ### calls -/
/-- f(..): the written arguments, then the defaults dvs; E: what is wanted of an exception -/
def tCall (sp : Sp) (dvs : List V) (E : XK) (t : TA) : TE := fun σ H Q => t σ H fun vs H1 => sp (vs ++ dvs) H1 Q E
/-- o.m(..) of an instance of the class at C -/
def tMeth (C : Addr) (m : Str) (sp : Sp) (dvs : List V) (E : XK) (ta : TE) (t : TA) : TE := fun σ H Q => ta σ H fun x H1 => ∃ a dx fs, x = .ref a ∧ H1 a = some (.ins C dx fs) ∧ fs.lookup m = none ∧
  t σ H1 fun vs H2 => sp (x :: (vs ++ dvs)) H2 Q E
/-- C(..): a new instance and its dict, then __init__ -/
def tMake (C : Addr) (sp : Sp) (dvs : List V) (E : XK) (t : TA) : TE := fun σ H Q => t σ H fun vs H1 => ∀ x dx, H1 x = none → H1 dx = none → dx ≠ x →
  sp (.ref x :: (vs ++ dvs)) (upd (upd H1 dx (.own x)) x (.ins C dx [])) (fun v H2 => v = .non ∧ Q (.ref x) H2) E

/-- how the parameters are bound: us the positional arguments, kw the keywords' values by name, ds the defaults that fill up -/
def Binds (K : PySem.W.Frag) (fd : FuncData) (ps : List Str) (ds : List Value) : Prop :=
  ∀ (s : Shared) (us : List Value), K.In s.heap → (us ++ ds).length = ps.length → BindsTo s fd ⟨us, []⟩ (ps.zip (us ++ ds))
/-- every parameter is given -/
theorem Binds.all {K : PySem.W.Frag} {fd : FuncData} {ps : List Str} (h : ∀ us : List Value, us.length = ps.length → bindArgs fd ⟨us, []⟩ = pure (ps.zip us)) : Binds K fd ps [] := fun s us _ hl => by
  rw [List.append_nil] at hl ⊢
  exact .of_eq (h us hl)

/-- an exception of a callee reaches what this body wants of exceptions -/
def Passes (CX : CXT) (X : Cx) (E : XK) : Prop := ∀ (pins : List (Addr × Obj)) (σ : St) (H : Hp) (s : Shared) (e : Value) (s' : Shared), Inv X pins σ H s → CX X.stack H s E e s' → X.xe e s'

section
variable {X : Cx} {CX : CXT} {k : Nat} {f C : Addr} {fd : FuncData} {ps : List Str} {sp : Sp} {dvs : List V} {ds : List Value} {E : XK} {x m : Str} {p pos apos : Pos} {e o : Expr} {es : List Expr} {ta : TE} {t : TA}

/-- the callee runs -/
theorem run_fn {pins : List (Addr × Obj)} {σ : St} {H : Hp} {s : Shared} {Q : VK} {us : List Value} {vs : List V} (F : FnOk X.prog X.w X.K X.mg X.base CX k f fd ps sp) (hr : Room k X.A) (hb : Binds X.K fd ps ds) (hd : Vals dvs ds) (hx : Passes CX X E)
    (I : Inv X pins σ H s) (r : Vals vs us) (h : sp (vs ++ dvs) H Q E) : wpAny (model X.prog X.w) X.A (call (.ref f) us) (EP X pins σ Q) X.xe s := by
  have r2 : Vals (vs ++ dvs) (us ++ ds) := r.append hd
  have hl : (us ++ ds).length = ps.length := by rw [← r2.length]; exact F.len _ _ _ _ h
  refine wpAny_call (codeAny_mono (F.run X.A X.stack s H ⟨us, []⟩ (us ++ ds) (vs ++ dvs) Q E hr I.env0 (hb s us I.kIn hl) r2 h) fun r s' hq => ?_)
  cases r with
  | error e => exact hx pins σ H s e s' I hq
  | ok fl =>
    cases fl with
    | ret u => exact I.after hq
    | next => exact False.elim hq
    | brk => exact False.elim hq
    | cont => exact False.elim hq

theorem pe_call (F : FnOk X.prog X.w X.K X.mg X.base CX k f fd ps sp) (hr : Room k X.A) (hg : Gl X x) (hm : X.mg x = some (.ref f)) (hk : PySem.W.keepIn X.K (.ref f) = true) (hb : Binds X.K fd ps ds) (hd : Vals dvs ds) (hx : Passes CX X E)
    (ha : PA X (e :: es) t) (hdb : (x == ("__debug__" : Str)) = false := by decide) (he : starEach (e :: es) X.env = (false, eval e X.env) :: starEach es X.env := by rfl) (hpl : (backTo pos (starEach es X.env)).any (·.1) = false := by rfl) :
    PE X (.Call (.Name x p) (e :: es) [] pos) (tCall sp dvs E t) := by
  intro pins s σ H Q I h
  refine wpAny_Call_Name_kw (ld_glob I hg hm ?_ hdb)
  refine PySem.W.callWith_K (h₀ := X.base) I.ok.mod.kin hk (thn (ha pos pins s σ H _ I h) fun us s1 ⟨vs, H1, I1, r, q⟩ => ⟨I1.kIn, ?_⟩) he hpl
  exact run_fn F hr hb hd hx I1 r q
theorem pe_call0 (F : FnOk X.prog X.w X.K X.mg X.base CX k f fd ps sp) (hr : Room k X.A) (hg : Gl X x) (hm : X.mg x = some (.ref f)) (hk : PySem.W.keepIn X.K (.ref f) = true) (hb : Binds X.K fd ps ds) (hd : Vals dvs ds) (hx : Passes CX X E)
    (hdb : (x == ("__debug__" : Str)) = false := by decide) : PE X (.Call (.Name x p) [] [] pos) (tCall sp dvs E tNil) := by
  intro pins s σ H Q I h
  refine wpAny_Call_Name_kw (ld_glob I hg hm ?_ hdb)
  exact PySem.W.callWith_K0 I.kIn hk (run_fn (us := []) F hr hb hd hx I .nil h)

/-- o.m(e, ..) -/
theorem pe_meth {pl : Sem Bool} (he : PE X o ta) (c : Cls X.K C) (hm : Meth X.K C m f) (F : FnOk X.prog X.w X.K X.mg X.base CX k f fd ps sp) (hr : Room k X.A) (hb : Binds X.K fd ps ds) (hd : Vals dvs ds) (hx : Passes CX X E) (ha : PA X (e :: es) t)
    (hst : starEach (e :: es) X.env = (false, eval e X.env) :: starEach es X.env := by rfl) (hpl : (backTo pos (starEach es X.env)).any (·.1) = false := by rfl)
    (ht : eval (.Call (.Attribute o m apos) (e :: es) [] pos) X.env = (do
      let ov ← eval o X.env
      standAt apos.atName
      let (f, first) ← holding [ov] (getMethod ov m pl)
      callWith pos f first (backTo pos (starEach (e :: es) X.env)) (backToKw pos (keywordEach [] X.env))) := by rfl) :
    PE X (.Call (.Attribute o m apos) (e :: es) [] pos) (tMeth C m sp dvs E ta t) := by
  intro pins s σ H Q I h
  refine PySem.W.methodCall_KW (pl := pl) (thn (he pins s σ H _ I h) fun u s1 ⟨x, H1, I1, rx, a, dx, fs, ex, ea, l, q⟩ => ?_) ht
  subst ex
  obtain rfl : u = Value.ref a := rx
  refine getmeth_ok I1 ea c hm l ?_
  refine PySem.W.callWith_K (first := [.ref a]) (h₀ := X.base) I.ok.mod.kin hm.kp (thn (ha pos pins s1 σ H1 _ I1 q) fun us s2 ⟨vs, H2, I2, r, q2⟩ => ⟨I2.kIn, ?_⟩) hst hpl
  exact run_fn (us := .ref a :: us) (vs := .ref a :: vs) F hr hb hd hx I2 (.cons rfl r) q2
/-- o.m() -/
theorem pe_meth0 {pl : Sem Bool} (he : PE X o ta) (c : Cls X.K C) (hm : Meth X.K C m f) (F : FnOk X.prog X.w X.K X.mg X.base CX k f fd ps sp) (hr : Room k X.A) (hb : Binds X.K fd ps ds) (hd : Vals dvs ds) (hx : Passes CX X E)
    (ht : eval (.Call (.Attribute o m apos) [] [] pos) X.env = (do
      let ov ← eval o X.env
      standAt apos.atName
      let (f, first) ← holding [ov] (getMethod ov m pl)
      callWith pos f first (backTo pos (starEach [] X.env)) (backToKw pos (keywordEach [] X.env))) := by rfl) :
    PE X (.Call (.Attribute o m apos) [] [] pos) (tMeth C m sp dvs E ta tNil) := by
  intro pins s σ H Q I h
  refine PySem.W.methodCall_KW (pl := pl) (thn (he pins s σ H _ I h) fun u s1 ⟨x, H1, I1, rx, a, dx, fs, ex, ea, l, q⟩ => ?_) ht
  subst ex
  obtain rfl : u = Value.ref a := rx
  refine getmeth_ok I1 ea c hm l ?_
  exact PySem.W.callWith_K0 (first := [.ref a]) I1.kIn hm.kp (run_fn (us := [.ref a]) (vs := [.ref a]) F hr hb hd hx I1 (.cons rfl .nil) q)

/-- what a class must have to be made -/
structure Mk (K : PySem.W.Frag) (C f : Addr) : Prop where
  makes : PySem.W.makesIn K C = true
  init : PySem.W.findIn K (.ref C) "__init__" = some (some (.ref f))
  fn : PySem.W.isFn K (.ref f) = true
  kp : PySem.W.keepIn K (.ref C) = true

theorem run_make {pins : List (Addr × Obj)} {σ : St} {H : Hp} {s : Shared} {Q : VK} {us : List Value} {vs : List V} (M : Mk X.K C f) (F : FnOk X.prog X.w X.K X.mg X.base CX k f fd ps sp) (hr : Room (k + 1) X.A) (hb : Binds X.K fd ps ds) (hd : Vals dvs ds)
    (hx : Passes CX X E) (I : Inv X pins σ H s) (r : Vals vs us)
    (h : ∀ x dx, H x = none → H dx = none → dx ≠ x → sp (.ref x :: (vs ++ dvs)) (upd (upd H dx (.own x)) x (.ins C dx [])) (fun v H2 => v = .non ∧ Q (.ref x) H2) E) :
    wpAny (model X.prog X.w) X.A (call (.ref C) us) (EP X pins σ Q) X.xe s := by
  have hq := h (s.heap.objs.size + 1) s.heap.objs.size (I.hok.fresh (Nat.le_succ _)) (I.hok.fresh (Nat.le_refl _)) (Nat.ne_of_lt (Nat.lt_succ_self _))
  have I2 := Inv.made (C := C) I
  have r2 : Vals (V.ref (s.heap.objs.size + 1) :: (vs ++ dvs)) (Value.ref (s.heap.objs.size + 1) :: (us ++ ds)) := .cons rfl (r.append hd)
  have hl : (Value.ref (s.heap.objs.size + 1) :: us ++ ds).length = ps.length := by
    have e := r2.length
    rw [F.len _ _ _ _ hq] at e
    exact e.symm
  refine wpAny_call (make_map (f := f) I.kIn M.makes M.init (beq_iff_eq.mp M.fn) (codeAny_mono (F.run _ X.stack _ _ ⟨Value.ref (s.heap.objs.size + 1) :: us, []⟩ (Value.ref (s.heap.objs.size + 1) :: (us ++ ds)) _ _ E (hr.make C us [])
    (I2.env0.make C us []) (hb _ (Value.ref (s.heap.objs.size + 1) :: us) I2.kIn hl) r2 hq) fun r s' hq' => ?_))
  cases r with
  | error e => exact hx pins σ _ _ e s' I2 hq'
  | ok fl =>
    cases fl with
    | ret u =>
      obtain ⟨v, H', I3, rv, ev, q3⟩ := I2.after hq'
      subst ev
      exact ⟨rv, ⟨V.ref (s.heap.objs.size + 1), H', I3, rfl, q3⟩⟩
    | next => exact False.elim hq'
    | brk => exact False.elim hq'
    | cont => exact False.elim hq'
theorem pe_make (M : Mk X.K C f) (F : FnOk X.prog X.w X.K X.mg X.base CX k f fd ps sp) (hr : Room (k + 1) X.A) (hg : Gl X x) (hm : X.mg x = some (.ref C)) (hb : Binds X.K fd ps ds) (hd : Vals dvs ds) (hx : Passes CX X E)
    (ha : PA X (e :: es) t) (hdb : (x == ("__debug__" : Str)) = false := by decide) (he : starEach (e :: es) X.env = (false, eval e X.env) :: starEach es X.env := by rfl) (hpl : (backTo pos (starEach es X.env)).any (·.1) = false := by rfl) :
    PE X (.Call (.Name x p) (e :: es) [] pos) (tMake C sp dvs E t) := by
  intro pins s σ H Q I h
  refine wpAny_Call_Name_kw (ld_glob I hg hm ?_ hdb)
  refine PySem.W.callWith_K (h₀ := X.base) I.ok.mod.kin M.kp (thn (ha pos pins s σ H _ I h) fun us s1 ⟨vs, H1, I1, r, q⟩ => ⟨I1.kIn, ?_⟩) he hpl
  exact run_make M F hr hb hd hx I1 r q
theorem pe_make0 (M : Mk X.K C f) (F : FnOk X.prog X.w X.K X.mg X.base CX k f fd ps sp) (hr : Room (k + 1) X.A) (hg : Gl X x) (hm : X.mg x = some (.ref C)) (hb : Binds X.K fd ps ds) (hd : Vals dvs ds) (hx : Passes CX X E)
    (hdb : (x == ("__debug__" : Str)) = false := by decide) : PE X (.Call (.Name x p) [] [] pos) (tMake C sp dvs E tNil) := by
  intro pins s σ H Q I h
  refine wpAny_Call_Name_kw (ld_glob I hg hm ?_ hdb)
  exact PySem.W.callWith_K0 I.kIn M.kp (run_make (us := []) M F hr hb hd hx I .nil h)
end

/-! ### keywords -/
/-- the values of the keywords, from the left -/
def PK (X : Cx) (kws : List Keyword) (t : TA) : Prop :=
  ∀ (pos : Pos) (pins : List (Addr × Obj)) (s : Shared) (σ : St) (H : Hp) (Q : List V → Hp → Prop), Inv X pins σ H s → t σ H Q → wpAny (model X.prog X.w) X.A (evalAll ((backToKw pos (keywordEach kws X.env)).map (·.2))) (AP X pins σ Q) X.xe s
section
variable {X : Cx} {CX : CXT} {k : Nat} {f C : Addr} {fd : FuncData} {ps ks : List Str} {sp : Sp} {E : XK} {x m : Str} {p pos apos kpos : Pos} {e o : Expr} {es : List Expr} {kws : List Keyword} {te ta : TE} {t tk : TA} {nm : Option Str}
theorem pk_nil : PK X [] tNil := fun _ _ _ _ H Q I h => wpAny_evalAll_nil ⟨[], H, I, .nil, h⟩
theorem pk_cons (ha : PE X e te) (hr : PK X kws t) : PK X (⟨nm, e, kpos⟩ :: kws) (tCons te t) := by
  intro pos pins s σ H Q I h
  show wpAny _ _ (evalAll ((do let v ← eval e X.env; standAt pos; pure v) :: (backToKw pos (keywordEach kws X.env)).map (·.2))) _ _ s
  refine wpAny_evalAll_cons (wpAny_bind (thn (ha pins s σ H _ I h) fun u s1 ⟨x, H1, I1, r1, q1⟩ => wpAny_bind (wpAny_standAt (wpAny_pure ?_))))
  exact thn (hr pos pins s1 σ H1 _ I1 q1) fun us s2 ⟨xs, H2, I2, r2, q2⟩ => ⟨x :: xs, H2, I2, .cons r1 r2, q2⟩

/-- how a call with keywords binds: g puts the positional values us and the keywords' values ws (names ks) in the parameters' order, defaults among them -/
structure KBinds (K : PySem.W.Frag) (fd : FuncData) (ps ks : List Str) (g : List Value → List Value → List Value) (gV : List V → List V → List V) : Prop where
  to : ∀ (s : Shared) (us ws : List Value), K.In s.heap → (g us ws).length = ps.length → BindsTo s fd ⟨us, ks.zip ws⟩ (ps.zip (g us ws))
  rel : ∀ {vs : List V} {us : List Value} {zs : List V} {ws : List Value}, Vals vs us → Vals zs ws → Vals (gV vs zs) (g us ws)
def tCallK (sp : Sp) (gV : List V → List V → List V) (E : XK) (t tk : TA) : TE := fun σ H Q => t σ H fun vs H1 => tk σ H1 fun zs H2 => sp (gV vs zs) H2 Q E
variable {g : List Value → List Value → List Value} {gV : List V → List V → List V}
theorem run_fnk {pins : List (Addr × Obj)} {σ : St} {H : Hp} {s : Shared} {Q : VK} {us ws : List Value} {vs zs : List V} (F : FnOk X.prog X.w X.K X.mg X.base CX k f fd ps sp) (hr : Room k X.A) (hb : KBinds X.K fd ps ks g gV) (hx : Passes CX X E)
    (I : Inv X pins σ H s) (r : Vals vs us) (rz : Vals zs ws) (h : sp (gV vs zs) H Q E) : wpAny (model X.prog X.w) X.A (call (.ref f) us (ks.zip ws)) (EP X pins σ Q) X.xe s := by
  have r2 := hb.rel r rz
  have hl : (g us ws).length = ps.length := by rw [← r2.length]; exact F.len _ _ _ _ h
  refine wpAny_call (codeAny_mono (F.run X.A X.stack s H ⟨us, ks.zip ws⟩ (g us ws) (gV vs zs) Q E hr I.env0 (hb.to s us ws I.kIn hl) r2 h) fun r s' hq => ?_)
  cases r with
  | error e => exact hx pins σ H s e s' I hq
  | ok fl =>
    cases fl with
    | ret u => exact I.after hq
    | next => exact False.elim hq
    | brk => exact False.elim hq
    | cont => exact False.elim hq
/-- f(e, .., k = v, ..) -/
theorem pe_callK (F : FnOk X.prog X.w X.K X.mg X.base CX k f fd ps sp) (hr : Room k X.A) (hg : Gl X x) (hm : X.mg x = some (.ref f)) (hk : PySem.W.keepIn X.K (.ref f) = true) (hb : KBinds X.K fd ps ks g gV) (hx : Passes CX X E)
    (ha : PA X (e :: es) t) (hkw : PK X kws tk) (hall : (backToKw pos (keywordEach kws X.env)).all (·.1.isSome) = true := by rfl) (hks : (backToKw pos (keywordEach kws X.env)).filterMap (·.1) = ks := by rfl)
    (hdb : (x == ("__debug__" : Str)) = false := by decide) (he : starEach (e :: es) X.env = (false, eval e X.env) :: starEach es X.env := by rfl)
    (hpl : ((backTo pos (starEach (e :: es) X.env)).any (·.1) || (backToKw pos (keywordEach kws X.env)).any (·.1.isNone)) = false := by rfl) :
    PE X (.Call (.Name x p) (e :: es) kws pos) (tCallK sp gV E t tk) := by
  intro pins s σ H Q I h
  refine wpAny_Call_Name_kw (ld_glob I hg hm ?_ hdb)
  refine PySem.W.callWith_KW (h₀ := X.base) I.ok.mod.kin hk hall (thn (ha pos pins s σ H _ I h) fun us s1 ⟨vs, H1, I1, r, q⟩ => ?_) hpl he
  refine thn (hkw pos pins s1 σ H1 _ I1 q) fun ws s2 ⟨zs, H2, I2, rz, q2⟩ => ⟨I2.kIn, ?_⟩
  rw [hks]
  exact run_fnk F hr hb hx I2 r rz q2
end

/-! ### a def's body keeps its promise -/
/-- names: the parameters first -/
structure FnScope (N P : List Str) (sc : Scope) : Prop where
  kind : sc.kind = .function
  co : sc.isCoroutine = false
  gen : sc.isGenerator = false
  nd : N.Nodup
  pre : N.take P.length = P
  par : ∀ x ∈ P, sc.names.lookup x = some .local ∨ sc.names.lookup x = some .cell
  nofree : ∀ y ∈ sc.names, y.2 ≠ .free

theorem bindL_out {kindOf : Str → Option NameKind} {x : Str} : ∀ {binds : List (Str × Value)} {m : Str → Option Value}, (∀ v, (x, v) ∉ binds) → bindL kindOf binds m x = m x
  | [], _, _ => rfl
  | (n, v) :: r, m, h => by
    unfold bindL
    rw [bindL_out fun w hw => h w (List.mem_cons_of_mem _ hw)]
    split
    · have : x ≠ n := by rintro rfl; exact h v List.mem_cons_self
      simp [this]
    · rfl
theorem bindC_out {kindOf : Str → Option NameKind} {x : Str} : ∀ {binds : List (Str × Value)} {m : Str → Option Value}, (∀ v, (x, v) ∉ binds) → bindC kindOf binds m x = m x
  | [], _, _ => rfl
  | (n, v) :: r, m, h => by
    unfold bindC
    rw [bindC_out fun w hw => h w (List.mem_cons_of_mem _ hw)]
    split
    · rfl
    · have : x ≠ n := by rintro rfl; exact h v List.mem_cons_self
      simp [this]
theorem bindL_get {kindOf : Str → Option NameKind} {x : Str} {v : Value} : ∀ {P : List Str} {vs : List Value} {i : Nat} {m : Str → Option Value}, P.Nodup → P[i]? = some x → vs[i]? = some v → kindOf x = some .local →
    bindL kindOf (P.zip vs) m x = some v
  | [], _, _, _, _, h, _, _ => by simp at h
  | _ :: _, [], _, _, _, _, h, _ => by simp at h
  | p :: P, w :: vs, 0, m, nd, h1, h2, hk => by
    simp at h1 h2; subst h1; subst h2
    show bindL kindOf ((p, w) :: P.zip vs) m p = _
    unfold bindL
    rw [bindL_out fun v hv => (List.nodup_cons.mp nd).1 (List.of_mem_zip hv).1, if_pos hk]
    simp
  | p :: P, w :: vs, i + 1, m, nd, h1, h2, hk => by
    show bindL kindOf ((p, w) :: P.zip vs) m x = _
    unfold bindL
    exact bindL_get (i := i) (List.nodup_cons.mp nd).2 (by simpa using h1) (by simpa using h2) hk
theorem bindC_get {kindOf : Str → Option NameKind} {x : Str} {v : Value} : ∀ {P : List Str} {vs : List Value} {i : Nat} {m : Str → Option Value}, P.Nodup → P[i]? = some x → vs[i]? = some v → kindOf x ≠ some .local →
    bindC kindOf (P.zip vs) m x = some v
  | [], _, _, _, _, h, _, _ => by simp at h
  | _ :: _, [], _, _, _, _, h, _ => by simp at h
  | p :: P, w :: vs, 0, m, nd, h1, h2, hk => by
    simp at h1 h2; subst h1; subst h2
    show bindC kindOf ((p, w) :: P.zip vs) m p = _
    unfold bindC
    rw [bindC_out fun v hv => (List.nodup_cons.mp nd).1 (List.of_mem_zip hv).1, if_neg hk]
    simp
  | p :: P, w :: vs, i + 1, m, nd, h1, h2, hk => by
    show bindC kindOf ((p, w) :: P.zip vs) m x = _
    unfold bindC
    exact bindC_get (i := i) (List.nodup_cons.mp nd).2 (by simpa using h1) (by simpa using h2) hk

/-- the names' values at the entry -/
def start (N : List Str) (vs : List V) : St := vs.map some ++ List.replicate (N.length - vs.length) none

/-- the context of a def's body, at its entry; an exception leaves the frame, then lies as CX says -/
def cxOf (CX : CXT) (P : Program) (w : World) (K : PySem.W.Frag) (mg : Str → Option Value) (base : Heap) (N : List Str) (qual : Str) (scope : Scope) (f : Addr) (cd : Value) (A : Around) (outer : List Env) (s : Shared) (H : Hp) (E : XK) : Cx where
  prog := P
  w := w
  K := K
  mg := mg
  base := base
  A := A.deeper (envOfC qual scope s.heap.objs.size f cd)
  N := N
  s_0 := s
  H_0 := H
  env := envOfC qual scope s.heap.objs.size f cd
  outer := outer
  stack := envOfC qual scope s.heap.objs.size f cd :: outer
  ex := []
  calm := true
  fn := fun _ => true
  pn := []
  xe := fun e s' => wpAny (model P w) (A.deeper (envOfC qual scope s.heap.objs.size f cd)) (leaving (envOfC qual scope s.heap.objs.size f cd) e) (fun _ s'' => CX outer H s E e s'') (fun e' s'' => CX outer H s E e' s'') s'

theorem cell_has {sc : Scope} {n : Nat} {x : Str} (h : sc.names.lookup x = some .cell) : ∃ c, (cellsFrom n sc.names []).lookup x = some c := by
  have q := PySem.W.cellsFrom_some sc.names n [] (.inl h)
  exact Option.isSome_iff_exists.mp q

theorem inv_start {CX : CXT} {P : Program} {w : World} {K : PySem.W.Frag} {mg : Str → Option Value} {base : Heap} {N ps : List Str} {qual : Str} {scope : Scope} {f : Addr} {cd : Value} {A : Around} {outer : List Env} {s s1 : Shared} {H : Hp} {E : XK} {us : List Value} {vs : List V}
    (S : FnScope N ps scope) (hd : A.handled = none) (e0 : Env0 P w K mg base A outer s H) (hl : vs.length = ps.length) (r : Vals vs us)
    (x : InCallC s s.heap.objs.size (bindL (envOfC qual scope s.heap.objs.size f cd).kindOf (ps.zip us) fun _ => none) (cellsFrom (s.heap.objs.size + 1) scope.names []) (bindC (envOfC qual scope s.heap.objs.size f cd).kindOf (ps.zip us) fun _ => none) s1) :
    Inv (cxOf CX P w K mg base N qual scope f cd A outer s H E) [] (start N vs) H s1 := by
  have hpl : ps.length ≤ N.length := by have := congrArg List.length S.pre; rw [List.length_take] at this; omega
  obtain ⟨h1, tk, rfl, hk⟩ := x.done
  have noA : ∀ b : Addr, b ∉ (cxOf CX P w K mg base N qual scope f cd A outer s H E).ex := fun b z => absurd (show b ∈ ([] : List Addr) from z) (by simp)
  refine ⟨⟨e0.mod, S.kind, rfl, rfl, Nat.le_refl _, fun y z c h1 h2 => ?_, fun y hy => ?_, fun y c _ h => ?_, fun _ => hd, Around.frames_deeper e0.frames, .inr ⟨rfl, rfl⟩, fun b z => absurd z (noA b), e0.bs, e0.bsz, fun b _ _ => noA b, fun b z => absurd z (noA b), e0.funs, e0.frf⟩,
    rfl, e0.bare, Un.kept hk, ⟨_, x.toInCall.ns, fun i y v h1 h2 h3 => ?_⟩, fun y c h => ⟨_, x.cell y c h⟩, e0.hok.fresh (Nat.le_refl _), fun y c h => ?_, fun p hp => absurd (show p ∈ ([] : List (Addr × Obj)) from hp) (by simp), e0.hok.kept hk, ?_⟩
  · exact name_of_addr x.apart (PySem.mem_of_lookup h1) (PySem.mem_of_lookup h2)
  · have hy : scope.names.lookup y = some .cell ∨ scope.names.lookup y = some .free := hy
    rcases hy with hy | hy
    · exact cell_has hy
    · exact absurd rfl (S.nofree _ (PySem.mem_of_lookup hy))
  · exact Nat.le_of_lt (x.above y c (PySem.mem_of_lookup h))
  · have hi : i < vs.length := by
      unfold start at h2
      by_cases hi : i < vs.length
      · exact hi
      · rw [List.getElem?_append_right (by simpa using hi)] at h2
        rw [List.getElem?_replicate] at h2
        split at h2 <;> cases h2
    have ha : vs[i]? = some v := by
      unfold start at h2
      rw [List.getElem?_append_left (by simpa using hi), List.getElem?_map] at h2
      cases e : vs[i]? with
      | none => rw [e] at h2; cases h2
      | some a => rw [e] at h2; cases h2; rfl
    obtain ⟨u, hu, rv⟩ := r.get ha
    have hp : ps[i]? = some y := by
      rw [← S.pre, List.getElem?_take_of_lt (by omega)]; exact h1
    have ndP : ps.Nodup := by rw [← S.pre]; exact S.nd.sublist (List.take_sublist _ _)
    refine ⟨u, rv, ?_⟩
    rcases S.par y (List.mem_of_getElem? hp) with k | k
    · exact .inl ⟨k, bindL_get ndP hp hu k⟩
    · obtain ⟨c, e⟩ := cell_has (n := s.heap.objs.size + 1) k
      refine .inr ⟨.inl k, c, e, ?_⟩
      have q := x.cell y c e
      rw [bindC_get ndP hp hu (by show scope.names.lookup y ≠ _; rw [k]; decide)] at q
      exact q
  · exact e0.hok.fresh (Nat.le_of_lt (x.above y c (PySem.mem_of_lookup h)))
  · unfold start
    show _ = N.length
    rw [List.length_append, List.length_map, List.length_replicate]
    omega

/-- THE RULE: a def (or a method) of the text, by its body. The body's reading t is chosen for each entry; it is run at the parameters' values -/
theorem fn_of {CX : CXT} {P : Program} {w : World} {K : PySem.W.Frag} {mg : Str → Option Value} {base : Heap} {k : Nat} {f : Addr} {name qual : Str} {params : Arguments} {body : List Stmt} {scope : Scope} {dV kV doc pm cdv ct oc : Value} {an od : Option Addr}
    {osl : Array (Option Value)} {N ps : List Str} {sp : Sp} (lk : K.lookup f = some ⟨oc, od, .func (PySem.W.fnOf name qual params body scope dV kV doc pm an cdv ct), osl⟩) (hcd : PySem.W.codeIn K cdv qual = true) (S : FnScope N ps scope)
    (len : ∀ vs H Q E, sp vs H Q E → vs.length = ps.length)
    (hbody : ∀ (A : Around) (outer : List Env) (s : Shared) (H : Hp) (vs : List V) (Q : VK) (E : XK), Room k (A.deeper (envOfC qual scope s.heap.objs.size f cdv)) → sp vs H Q E →
      ∃ t, PSs (cxOf CX P w K mg base N qual scope f cdv A outer s H E) body t ∧ t { nx := fun _ H' => Q .non H', rt := Q } (start N vs) H) :
    FnOk P w K mg base CX (k + 1) f (PySem.W.fnOf name qual params body scope dV kV doc pm an cdv ct) ps sp := by
  refine ⟨len, fun A outer s H args us vs Q E hr e0 hb r hsp => ?_⟩
  have hl := len _ _ _ _ hsp
  have KX : K.In s.heap := e0.mod.kin.keeps fun b o e => (e0.bs b o e).1
  have lim : s.heap.NoLimit := e0.mod.nolimit.keeps fun b o e => (e0.bs b o e).1
  have hkind : ∀ y ∈ ps.zip us, scope.names.lookup y.1 = some .local ∨ (scope.names.lookup y.1 = some .cell ∧ ((cellsFrom (s.heap.objs.size + 1) scope.names []).lookup y.1).isSome = true) := fun ⟨n, v⟩ hy => by
    rcases S.par n (List.of_mem_zip hy).1 with q | q
    · exact .inl q
    · exact .inr ⟨q, PySem.W.cellsFrom_some _ _ _ (.inl q)⟩
  refine codeAny_call_function hr.depth (KX _ _ lk) rfl S.co S.gen rfl (PySem.W.codeRec_of KX hcd) (hb _ _ _ _ ?_)
  refine wpAny_newFunctionEnv_cells S.kind hkind fun env he s1 x => ?_
  subst he
  refine ⟨lim.keeps x.toInCall.keep, codeAny_func ?_⟩
  obtain ⟨t, ht, hq⟩ := hbody A outer s H vs Q E (hr.deeper _) hsp
  have I : Inv (cxOf CX P w K mg base N qual scope f cdv A outer s H E) [] (start N vs) H s1 := inv_start S hr.hd e0 hl r x
  refine wpAny_mono (ht [] s1 (start N vs) H _ I hq) (fun fl s' hs => ?_) fun e s' hs => hs
  have fin : ∀ {σ' : St} {H' : Hp} {v : V} {u : Value}, Inv (cxOf CX P w K mg base N qual scope f cdv A outer s H E) [] σ' H' s' → RelV v u → Q v H' → CE outer P w H s Q u s' :=
    fun {σ' H' v u} J rv q => ⟨v, H', J.os, J.bare, J.base, J.hok, rv, q⟩
  cases fl with
  | ret u =>
    obtain ⟨v, σ', H', J, rv, q⟩ := hs
    exact fin J rv q
  | next =>
    obtain ⟨σ', H', J, q⟩ := hs
    exact fin (v := V.non) (u := Value.none) J rfl q
  | brk =>
    obtain ⟨_, _, _, q⟩ := hs
    exact False.elim q
  | cont =>
    obtain ⟨_, _, _, q⟩ := hs
    exact False.elim q
end L2

namespace L2
open PySem PySem.Spec PyProof.Rows
section
variable {X : Cx} {x : Str} {p pos : Pos} {e : Expr} {es : List Expr} {t : TA} {id T : String} {r : List V → Hp → VK → Prop}

def tCB (r : List V → Hp → VK → Prop) (t : TA) : TE := fun σ H Q => t σ H fun vs H1 => r vs H1 Q
/-- f(e, ..), f a built-in function -/
theorem pe_callB (hc : CallR X (.builtin id) r) (hg : Gl X x) (hm : X.mg x = none) (hv : bootBuiltins x = some (.builtin id)) (ha : PA X (e :: es) t) (hn : x ≠ "__name__" := by decide) (hdb : (x == ("__debug__" : Str)) = false := by decide)
    (he : starEach (e :: es) X.env = (false, eval e X.env) :: starEach es X.env := by rfl) (hpl : (backTo pos (starEach es X.env)).any (·.1) = false := by rfl) : PE X (.Call (.Name x p) (e :: es) [] pos) (tCB r t) := by
  intro pins s σ H Q I h
  refine wpAny_Call_Name_kw (ld_blt I hg hm hv ?_ hn hdb)
  exact PyProof.Rows.callWith_builtin1 (thn (ha pos pins s σ H _ I h) fun us s1 ⟨vs, H1, I1, r1, q1⟩ => hc pins s1 σ H1 vs us Q I1 r1 q1) he hpl
/-- T(e, ..), T a built-in type -/
theorem pe_callTy (hc : CallR X (.type T) r) (hg : Gl X x) (hm : X.mg x = none) (hv : bootBuiltins x = some (.type T)) (ha : PA X (e :: es) t) (hn : x ≠ "__name__" := by decide) (hdb : (x == ("__debug__" : Str)) = false := by decide)
    (he : starEach (e :: es) X.env = (false, eval e X.env) :: starEach es X.env := by rfl) (hpl : (backTo pos (starEach es X.env)).any (·.1) = false := by rfl) : PE X (.Call (.Name x p) (e :: es) [] pos) (tCB r t) := by
  intro pins s σ H Q I h
  refine wpAny_Call_Name_kw (ld_blt I hg hm hv ?_ hn hdb)
  exact PyProof.Rows.callWith_type1 (thn (ha pos pins s σ H _ I h) fun us s1 ⟨vs, H1, I1, r1, q1⟩ => hc pins s1 σ H1 vs us Q I1 r1 q1) he hpl
/-- T() -/
theorem pe_callTy0 (hc : CallR X (.type T) r) (hg : Gl X x) (hm : X.mg x = none) (hv : bootBuiltins x = some (.type T)) (hn : x ≠ "__name__" := by decide) (hdb : (x == ("__debug__" : Str)) = false := by decide) :
    PE X (.Call (.Name x p) [] [] pos) (tCB r tNil) := by
  intro pins s σ H Q I h
  refine wpAny_Call_Name_kw (ld_blt I hg hm hv ?_ hn hdb)
  exact PyProof.Rows.callWith_type0 (hc pins s σ H [] [] Q I .nil h)
end
end L2

namespace HT
open PySem PyProof.Rows

/-- t < u of tuples of ints -/
def lexLt : List Int → List Int → Bool
  | [], [] => false
  | [], _ :: _ => true
  | _ :: _, [] => false
  | x :: xs, y :: ys => if x = y then lexLt xs ys else decide (x < y)
theorem lexLt_cons (x y : Int) (xs ys : List Int) : lexLt (x :: xs) (y :: ys) = if x = y then lexLt xs ys else decide (x < y) := rfl
theorem lexLt_nil_nil : lexLt [] [] = false := rfl
theorem lexLt_nil_cons (y : Int) (ys : List Int) : lexLt [] (y :: ys) = true := rfl
theorem lexLt_cons_nil (x : Int) (xs : List Int) : lexLt (x :: xs) [] = false := rfl

theorem eqAt_int (A : Around) (s : Shared) (a : Int) (t : Tok) (c : Int) (u : Tok) : ∃ e, SeqAt.EqAt A s (.int a t) (.int c u) e ∧ (e = true ↔ a = c) :=
  ⟨(a == c), SeqAt.EqAt.int_int a t c u, by simp⟩
theorem rcLt_int (A : Around) (s : Shared) (a : Int) (t : Tok) (c : Int) (u : Tok) (prog : Program) (w : World) (E : Value → Shared → Prop) (Q : Value → Shared → Prop) (h : Q (.bool (decide (a < c))) s) :
    wpAny (model prog w) A (richCompare .Lt (.int a t) (.int c u)) Q E s :=
  (PyProof.Rows.lt_int h : wpAny (model prog w) A (compareOp .Lt (.int a t) (.int c u)) Q E s)

section
open PySem.SeqAt
open PySem.AutoSeq1 (wpAny_loadPart')
open PySem.MeetsSeq PySem.MeetsSeq2 PySem.MeetsSeq3

theorem tuple_lt_ints (l b : Addr) (items items2 : Array Value) (n n2 : Nat) (dd dd2 : Option Addr) (sl sl2 : Array (Option Value)) (ns ms : List Int) (hi : IntsAre items.toList ns) (hj : IntsAre items2.toList ms) :
    Meets (Builtin.«tuple.__lt__» ⟨[.ref l, .ref b], []⟩)
      (fun _ R s => s.heap.get? l = some { cls := .type "tuple", dict := dd, data := .seq items n, slots := sl } ∧ s.heap.get? b = some { cls := .type "tuple", dict := dd2, data := .seq items2 n2, slots := sl2 } ∧
        R (.ok (.ret (.bool (lexLt ns ms)))) s) :=
  .of_wp fun prog w A R s h => by
    obtain ⟨hp, g, d, tk, os⟩ := s; obtain ⟨hl, hb, h⟩ := h
    have f2 := AutoSeq1.sub_tuple_tuple
    have z1 : items.size = ns.length := by rw [← hi.length]; simp
    have z2 : items2.size = ms.length := by rw [← hj.length]; simp
    wp_walk using wpAny_loadPart' hl, wpAny_loadPart' hb, wpAny_forIn_list _ (fun rest b s' => b.1 = none ∧ s' = ⟨hp, g, d, tk, os⟩ ∧ ∃ (vs ws : List Value) (ns' ms' : List Int), rest = vs.zip ws ∧
      IntsAre vs ns' ∧ IntsAre ws ms' ∧ ns'.length + items2.size = ms'.length + items.size ∧ R (.ok (.ret (.bool (lexLt ns' ms')))) ⟨hp, g, d, tk, os⟩) _
    case turn =>
      rintro ⟨y, x⟩ rest b s' ⟨hb', rfl, vs, ws, ns', ms', hz, hvi, hwi, hlen, hR⟩
      cases hvi with
      | nil => rw [List.zip_nil_left] at hz; cases hz
      | cons a t hvi' =>
        cases hwi with
        | nil => rw [List.zip_nil_right] at hz; cases hz
        | cons c u hwi' =>
          rw [List.zip_cons_cons] at hz
          injection hz with hyx hrest
          injection hyx with hy hx
          subst hy hx
          rw [lexLt_cons] at hR
          simp only [List.length_cons] at hlen
          obtain ⟨e, he, hiff⟩ := eqAt_int A.in1 ⟨hp, g, d, tk, os⟩ a t c u
          refine wpAny_bind (he prog w _ _ ?_)
          cases e with
          | true =>
            rw [if_pos (hiff.mp rfl)] at hR
            wp_walk
            exact ⟨rfl, rfl, _, _, _, _, hrest, hvi', hwi', by omega, hR⟩
          | false =>
            rw [if_neg (fun q => absurd (hiff.mpr q) Bool.false_ne_true)] at hR
            have hri := rcLt_int A.in1 ⟨hp, g, d, tk, os⟩ a t c u prog w
            wp_walk using hri
            exact ⟨_, rfl, by simpa using hR⟩
    case fin =>
      rintro ⟨b1, b2⟩ s' ⟨hb', rfl, vs, ws, ns', ms', hz, hvi, hwi, hlen, hR⟩
      simp only at hb'
      subst hb'
      have hv : lexLt ns' ms' = decide (items.size < items2.size) := by
        cases hvi with
        | nil =>
          cases hwi with
          | nil =>
            simp only [List.length_nil] at hlen
            rw [lexLt_nil_nil]
            exact (decide_eq_false (by omega)).symm
          | cons c u hw =>
            simp only [List.length_nil, List.length_cons] at hlen
            rw [lexLt_nil_cons]
            exact (decide_eq_true (by omega)).symm
        | cons a t hv =>
          cases hwi with
          | nil =>
            simp only [List.length_nil, List.length_cons] at hlen
            rw [lexLt_cons_nil]
            exact (decide_eq_false (by omega)).symm
          | cons c u hw =>
            rw [List.zip_cons_cons] at hz
            cases hz
      rw [hv] at hR
      wp_walk
      exact ⟨_, rfl, by simpa [Builtin.Tuple.tupleCompareSizes] using hR⟩
    case h =>
      exact ⟨rfl, rfl, items.toList, items2.toList, ns, ms, rfl, hi, hj, by omega, h⟩
end

section
variable {prog : Program} {w : World} {A : Around} {E : Value → Shared → Prop} {s : Shared}

theorem lt_tupInts {l b : Addr} {items items2 : Array Value} {ns ms : List Int} {Q : Value → Shared → Prop} (hl : IsTup s.heap l items) (hb : IsTup s.heap b items2) (hi : IntsAre items.toList ns) (hj : IntsAre items2.toList ms)
    (hu : A.units < cLine) (h : Q (.bool (lexLt ns ms)) s) : wpAny (model prog w) A (compareOp .Lt (.ref l) (.ref b)) Q E s := by
  obtain ⟨⟨cls, dd, data, sl⟩, ho, hc, n, hd⟩ := id hl
  obtain ⟨⟨cls2, dd2, data2, sl2⟩, ho2, hc2, n2, hd2⟩ := id hb
  simp only at hc hd hc2 hd2
  subst hc hd hc2 hd2
  exact richCompare_meets_room (op := .Lt) ⟨_, ho, rfl⟩ ⟨_, ho2, rfl⟩ PySem.F.slot_tuple_lt PySem.F.entry_tuple_lt (PySem.F.args_tuple_lt_2 _ _) (tuple_lt_ints l b items items2 n n2 dd dd2 sl sl2 ns ms hi hj)
    ⟨ho, ho2, show Value.bool (lexLt ns ms) ≠ Value.notImplemented ∧ Q (.bool (lexLt ns ms)) s from ⟨(fun x => nomatch x), h⟩⟩ hu

/-- t + u, t not empty -/
theorem cat_tup {t b : Addr} {vs ws : List Value} {Q : Value → Shared → Prop} (ht : IsTup s.heap t vs.toArray) (hb : IsTup s.heap b ws.toArray) (hv : vs ≠ [])
    (h1 : ws = [] → Q (.ref t) s) (h2 : ws ≠ [] → Q (.ref s.heap.objs.size) { s with heap := s.heap.push { cls := .type "tuple", data := .seq (vs ++ ws).toArray } })
    (hsz : vs.length + ws.length ≤ sizeLine) : wpAny (model prog w) A (binaryOp .Add (.ref t) (.ref b)) Q E s := by
  obtain ⟨⟨cls, dd, data, sl⟩, ho, hc, n, hd⟩ := id ht
  obtain ⟨⟨cls2, dd2, data2, sl2⟩, ho2, hc2, n2, hd2⟩ := id hb
  simp only at hc hd hc2 hd2
  subst hc hd hc2 hd2
  have e : vs.toArray ++ ws.toArray = (vs ++ ws).toArray := by simp
  by_cases hw : ws = []
  · exact concat_meets ⟨_, ho, rfl⟩ ⟨_, ho2, rfl⟩ noFill_tuple_add seq_tuple_add PySem.F.slot_tuple_add PySem.F.entry_tuple_add (PySem.F.args_tuple_add_2 _ _)
      (tuple_addW1 t b vs.toArray ws.toArray n n2 dd dd2 sl sl2 (by simpa using hv) (by simp [hw])) ⟨ho, ho2, h1 hw⟩
  · refine concat_meets ⟨_, ho, rfl⟩ ⟨_, ho2, rfl⟩ noFill_tuple_add seq_tuple_add PySem.F.slot_tuple_add PySem.F.entry_tuple_add (PySem.F.args_tuple_add_2 _ _)
      (tuple_addW2 t b vs.toArray ws.toArray n n2 dd dd2 sl sl2 (by simpa using hv) (by simpa using hw) (by rw [List.size_toArray, List.size_toArray]; exact hsz)) ⟨ho, ho2, ?_⟩
    rw [e]
    exact h2 hw

/-! ### t[a:b], not the whole -/
/-- a slice's bound as a place among n (d where it is left out) -/
def sIx (n d : Nat) : Option Int → Nat
  | none => d
  | some v => if v < 0 then (v + (n : Int)).toNat else min v.toNat n
theorem sIx_none (n d : Nat) : sIx n d none = d := rfl
theorem sIx_nat (n d k : Nat) : sIx n d (some (k : Int)) = min k n := by
  show (if (k : Int) < 0 then ((k : Int) + (n : Int)).toNat else min (k : Int).toNat n) = min k n
  rw [if_neg (by omega), Int.toNat_natCast]
theorem sIx_le (n d : Nat) (hd : d ≤ n) (o : Option Int) : sIx n d o ≤ n := by
  cases o with
  | none => exact hd
  | some v =>
    show (if v < 0 then (v + (n : Int)).toNat else min v.toNat n) ≤ n
    by_cases hv : v < 0
    · rw [if_pos hv]; omega
    · rw [if_neg hv]; exact Nat.min_le_right _ _
theorem clip_eq (v : Int) (n d : Nat) : (if v < 0 then max (v + (n : Int)) 0 else min v (n : Int)) = ((sIx n d (some v) : Nat) : Int) := by
  show (if v < 0 then max (v + (n : Int)) 0 else min v (n : Int)) = (((if v < 0 then (v + (n : Int)).toNat else min v.toNat n) : Nat) : Int)
  by_cases hv : v < 0
  · simp only [if_pos hv]; omega
  · simp only [if_neg hv]; omega
theorem adjust_gen (lo hi : Option Int) (n : Nat) : Builtin.Slice.sliceAdjust lo hi 1 (n : Int) = (((sIx n 0 lo : Nat) : Int), ((sIx n n hi : Nat) : Int)) := by
  have h1 : ¬ ((1 : Int) < 0) := by omega
  unfold Builtin.Slice.sliceAdjust
  simp only [h1, if_false]
  refine Prod.ext ?_ ?_
  · cases lo with
    | none => rfl
    | some v => exact clip_eq v n 0
  · cases hi with
    | none => rfl
    | some v => exact clip_eq v n n
theorem places_gen (i j : Nat) : Builtin.Slice.slicePlaces (i : Int) (j : Int) 1 = j - i := by
  unfold Builtin.Slice.slicePlaces
  have h1 : (1 : Int) > 0 := by omega
  simp only [h1, if_true, Int.ediv_one]
  split <;> omega
theorem slicePart_ {v : Value} {o : Option Int} {Q : Option Int → Shared → Prop} (p : IsPart v o) (h : Q o s) : wpAny (model prog w) A (Builtin.Slice.slicePartIndex v) Q E s := by
  cases p with
  | none => exact slicePart_none h
  | int i t => exact slicePart_int h
theorem sliceApplied_gen {sl : Addr} {vl vu : Value} {lo hi : Option Int} {n : Nat} {Q : Int × Int × Nat → Shared → Prop} (hs : s.heap.IsSliceOf sl vl vu .none) (pl : IsPart vl lo) (pu : IsPart vu hi)
    (h : Q (((sIx n 0 lo : Nat) : Int), 1, sIx n n hi - sIx n 0 lo) s) : wpAny (model prog w) A (Builtin.Slice.sliceApplied (.ref sl) (pure (n : Int))) Q E s := by
  obtain ⟨os, hos, hcs, hds⟩ := id hs
  unfold Builtin.Slice.sliceApplied Builtin.Slice.sliceFields
  refine wpAny_bind (wpAny_bind (wpAny_field hos hds (x := vl) rfl (wpAny_bind (wpAny_field hos hds (x := vu) rfl (wpAny_bind (wpAny_field hos hds (x := .none) rfl (wpAny_pure ?_)))))))
  refine wpAny_bind (slicePart_none ?_)
  show wpAny _ _ (if ((1 : Int) == 0) = true then _ else _) _ _ s
  rw [if_neg (by decide)]
  refine wpAny_bind (slicePart_ pl (wpAny_bind (slicePart_ pu (wpAny_bind (wpAny_pure ?_)))))
  show wpAny _ _ (match Builtin.Slice.sliceAdjust lo hi 1 (n : Int) with | (lo, hi) => pure (lo, (1 : Int), Builtin.Slice.slicePlaces lo hi 1)) _ _ s
  rw [adjust_gen lo hi n]
  show wpAny _ _ (pure (((sIx n 0 lo : Nat) : Int), (1 : Int), Builtin.Slice.slicePlaces ((sIx n 0 lo : Nat) : Int) ((sIx n n hi : Nat) : Int) 1)) _ _ s
  rw [places_gen]
  exact wpAny_pure h
theorem pick_gen (xs : Array Value) (i k : Nat) : ((List.range k).filterMap fun (m : Nat) => xs[((i : Int) + (m : Int) * 1).toNat]?).toArray = ((xs.toList.drop i).take k).toArray := by
  have e : (fun (m : Nat) => xs[((i : Int) + (m : Int) * 1).toNat]?) = fun m => xs[i + m]? := by
    funext m
    have : ((i : Int) + (m : Int) * 1).toNat = i + m := by omega
    rw [this]
  rw [e]
  have := pick_run xs i k
  rw [List.filterMap_map] at this
  have e2 : ((fun x => xs[x]?) ∘ fun x => i + x) = fun m => xs[i + m]? := rfl
  rw [e2] at this
  rw [this]

theorem getItem_tuple_cut {t sl : Addr} {items : Array Value} {vl vu : Value} {lo hi : Option Int} {Q : Value → Shared → Prop} (ht : IsTup s.heap t items) (hs : s.heap.IsSliceOf sl vl vu .none) (pl : IsPart vl lo) (pu : IsPart vu hi)
    (hw : ¬ (sIx items.size 0 lo = 0 ∧ sIx items.size items.size hi = items.size))
    (h : Q (.ref s.heap.objs.size) { s with heap := s.heap.push { cls := .type "tuple", data := .seq ((items.toList.drop (sIx items.size 0 lo)).take (sIx items.size items.size hi - sIx items.size 0 lo)).toArray } })
    (hsz : items.size ≤ sizeLine) : wpAny (model prog w) A (getItem (.ref t) (.ref sl)) Q E s := by
  have htake : sizeOk (.seq ((items.toList.drop (sIx items.size 0 lo)).take (sIx items.size items.size hi - sIx items.size 0 lo)).toArray) := by
    show ((items.toList.drop (sIx items.size 0 lo)).take (sIx items.size items.size hi - sIx items.size 0 lo)).toArray.size ≤ sizeLine
    rw [List.size_toArray, List.length_take, List.length_drop, Array.length_toList]
    omega
  have hj : sIx items.size items.size hi ≤ items.size := sIx_le _ _ (Nat.le_refl _) hi
  obtain ⟨os, hos, hcs, hds⟩ := id hs
  have hTs : s.TypeIs (.ref sl) "slice" := ⟨os, hos, hcs⟩
  unfold getItem
  try with_reducible refine wpAny_holding ?_
  first | refine wpAny_bind (wpAny_pure ?_) | skip
  refine wpAny_bind (wpAny_sequenceKey ht.typeIs (by decide) ?_)
  refine wpAny_bind (wpAny_callSpecial?_slot (name := Str.ofString "__getitem__") ht.typeIs PyProof.Rows.slot_tuple_getitem
    (wpAny_call_entry PyProof.Rows.slot_tuple_getitem ht.typeIs entry_tuple_getitem ?_ (args_tuple_getitem _ _)))
  show wpAny _ _ (Builtin.Tuple.tupleItemsOf (.ref t) >>= _) _ _ s
  refine wpAny_bind (tupleItemsOf_ ht ?_)
  refine wpAny_bind (wpAny_typeOf hTs ?_)
  rw [if_pos (by decide)]
  refine wpAny_bind (sliceApplied_gen hs pl pu ?_)
  have hno : ¬ ((((sIx items.size 0 lo : Nat) : Int) == 0 && (1 : Int) == 1 && (sIx items.size items.size hi - sIx items.size 0 lo) == items.size) = true) := by
    intro q
    rw [Bool.and_eq_true, Bool.and_eq_true] at q
    have q1 : ((sIx items.size 0 lo : Nat) : Int) = 0 := eq_of_beq q.1.1
    have q2 : sIx items.size items.size hi - sIx items.size 0 lo = items.size := eq_of_beq q.2
    exact hw ⟨by omega, by omega⟩
  show wpAny _ _ (if (((sIx items.size 0 lo : Nat) : Int) == 0 && (1 : Int) == 1 && (sIx items.size items.size hi - sIx items.size 0 lo) == items.size) = true then _ else _) _ _ s
  rw [if_neg hno, pick_gen]
  first
    | exact wpAny_bind (m := Builtin.Tuple.tupleExact _) (wpAny_newObj_type (wpAny_pure ⟨_, rfl, wpAny_pure h⟩) htake)
    | exact wpAny_bind (m := Builtin.Tuple.tupleExact _) (wpAny_newObj_type (wpAny_bind (wpAny_pure (wpAny_pure ⟨_, rfl, wpAny_pure h⟩))) htake)
    | exact wpAny_bind (wpAny_bind (m := Builtin.Tuple.tupleExact _) (wpAny_newObj_type (wpAny_pure (wpAny_pure ⟨_, rfl, wpAny_pure h⟩)) htake))
    | exact wpAny_bind (wpAny_bind (m := Builtin.Tuple.tupleExact _) (wpAny_newObj_type (wpAny_pure ⟨_, rfl, wpAny_pure h⟩) htake))
end
end HT

namespace L2
open PySem PySem.Spec PyProof.Rows

/-! ### the parts of a slice -/
abbrev TO := St → Hp → (Option Int → Hp → Prop) → Prop
/-- a slice's part (left out, or an int) -/
def PO (X : Cx) (e : Option Expr) (t : TO) : Prop :=
  ∀ (pins : List (Addr × Obj)) (s : Shared) (σ : St) (H : Hp) (Q : Option Int → Hp → Prop), Inv X pins σ H s → t σ H Q →
    wpAny (model X.prog X.w) X.A (evalPart e X.env) (fun u s' => ∃ o H', Inv X pins σ H' s' ∧ IsPart u o ∧ Q o H') X.xe s
def tNoPart : TO := fun _ H Q => Q none H
def tPart (t : TE) : TO := fun σ H Q => t σ H fun x H1 => ∃ i, x = .int i ∧ Q (some i) H1

theorem intsAre_of {ns : List Int} : ∀ {us : List Value}, Vals (ns.map V.int) us → IntsAre us ns := by
  induction ns with
  | nil => intro us r; rw [List.map_nil] at r; cases r; exact .nil
  | cons n ns ih =>
    intro us r
    rw [List.map_cons] at r
    cases r with
    | cons r1 r2 =>
      obtain ⟨t, e⟩ := r1
      subst e
      exact .cons n t (ih r2)

section
variable {X : Cx} {e : Expr} {te : TE} {lo hi : Option Expr} {tl th : TO} {pos p2 : Pos}

theorem po_none : PO X none tNoPart := by
  intro pins s σ H Q I h
  rw [evalPart_none]
  exact wpAny_pure ⟨none, H, I, .none, h⟩
theorem po_some (h : PE X e te) : PO X (some e) (tPart te) := by
  intro pins s σ H Q I hw
  rw [evalPart_some]
  refine thn (h pins s σ H _ I hw) fun u s1 ⟨x, H1, I1, r1, q1⟩ => ?_
  obtain ⟨i, rfl, q⟩ := q1
  obtain ⟨t, rfl⟩ := r1
  exact ⟨some i, H1, I1, .int i t, q⟩

/-- what a slice of a value is, by values: the slice object stands at sl -/
def SlR (X : Cx) (r : V → Option Int → Option Int → Hp → VK → Prop) : Prop :=
  ∀ (pins : List (Addr × Obj)) (s : Shared) (σ : St) (H : Hp) (x : V) (v vl vu : Value) (lo hi : Option Int) (sl : Addr) (Q : VK), Inv X pins σ H s → RelV x v → s.heap.IsSliceOf sl vl vu .none → IsPart vl lo → IsPart vu hi → r x lo hi H Q →
    ∃ T id, typeLookup (.type T) "__getitem__" = pure (some (.builtin id)) ∧ s.TypeIs v T ∧ wpAny (model X.prog X.w) X.A (getItem v (.ref sl)) (EP X pins σ Q) X.xe s
theorem SlR.or {r r' : V → Option Int → Option Int → Hp → VK → Prop} (h : SlR X r) (h' : SlR X r') : SlR X (fun x lo hi H Q => r x lo hi H Q ∨ r' x lo hi H Q) := by
  intro pins s σ H x v vl vu lo hi sl Q I rx hs pl pu q
  rcases q with q | q
  · exact h pins s σ H x v vl vu lo hi sl Q I rx hs pl pu q
  · exact h' pins s σ H x v vl vu lo hi sl Q I rx hs pl pu q
def tSl (r : V → Option Int → Option Int → Hp → VK → Prop) (te : TE) (tl th : TO) : TE := fun σ H Q => te σ H fun x H1 => tl σ H1 fun l H2 => th σ H2 fun u H3 => r x l u H3 Q
/-- a[lo:hi], any a -/
theorem pe_slice {r : V → Option Int → Option Int → Hp → VK → Prop} (hr : SlR X r) (he : PE X e te) (hl : PO X lo tl) (hu : PO X hi th) : PE X (.Subscript e (.Slice lo hi none p2) pos) (tSl r te tl th) := by
  intro pins s σ H Q I h
  refine Subscript_ (thn (he pins s σ H _ I h) fun v s1 ⟨x, H1, I1, r1, q1⟩ => ?_)
  refine wpAny_Slice (thn (hl pins s1 σ H1 _ I1 q1) fun vl s2 ⟨l, H2, I2, pl, q2⟩ => thn (hu pins s2 σ H2 _ I2 q2) fun vu s3 ⟨u, H3, I3, pu, q3⟩ => ?_)
  rw [evalPart_none]
  refine wpAny_pure ?_
  have I4 : Inv X pins σ H3 { s3 with heap := s3.heap.push { cls := .type "slice", data := .fields #[vl, vu, .none] } } := I3.kept (t' := s3.toks) fun b ob q => Heap.get?_push_of_some _ q
  obtain ⟨T, id, hT, ht, hg⟩ := hr pins { s3 with heap := s3.heap.push { cls := .type "slice", data := .fields #[vl, vu, .none] } } σ H3 x v vl vu l u s3.heap.objs.size Q I4 r1 (Heap.IsSliceOf.new ..) pl pu q3
  show wpAny (model X.prog X.w) X.A (subscriptTail e (.Slice lo hi none p2) v (.ref s3.heap.objs.size)) (EP X pins σ Q) X.xe { s3 with heap := s3.heap.push { cls := .type "slice", data := .fields #[vl, vu, .none] } }
  exact tail_any (ops := [.ref s3.heap.objs.size, v]) ht hT hg (by with_unfolding_all rfl)

/-- the items of xs[lo:hi] -/
def cutV (xs : List V) (lo hi : Option Int) : List V := (xs.drop (HT.sIx xs.length 0 lo)).take (HT.sIx xs.length xs.length hi - HT.sIx xs.length 0 lo)
theorem cutV_length (xs : List V) (lo hi : Option Int) : (cutV xs lo hi).length ≤ xs.length := by
  unfold cutV
  rw [List.length_take, List.length_drop]
  omega
/-- t[lo:hi], not the whole of it (the whole would be t itself) -/
def rSlT (K : PySem.W.Frag) : V → Option Int → Option Int → Hp → VK → Prop := fun x lo hi H Q => ∃ a xs, x = .ref a ∧ SqT K H a xs ∧
  ¬ (HT.sIx xs.length 0 lo = 0 ∧ HT.sIx xs.length xs.length hi = xs.length) ∧ ∀ p, H p = none → Q (.ref p) (upd H p (.tup (cutV xs lo hi)))
theorem sl_tup : SlR X (rSlT X.K) := by
  intro pins s σ H x v vl vu lo hi sl Q I rx hs pl pu h
  obtain ⟨a, xs, rfl, hx, hw, q⟩ := h
  cases rx
  obtain ⟨its, r, ht, hz⟩ := I.tuple hx
  have hlen : its.toArray.size = xs.length := by rw [List.size_toArray]; exact r.length.symm
  refine ⟨"tuple", _, PyProof.Rows.slot_tuple_getitem.lookup, ht.typeIs, ?_⟩
  refine HT.getItem_tuple_cut ht hs pl pu (by rw [hlen]; exact hw) ?_ (by rw [hlen]; exact hz)
  rw [hlen]
  refine ⟨.ref s.heap.objs.size, _, I.laid (t' := s.toks) (o := .tup (cutV xs lo hi)) (fun b ob q => Heap.get?_push_of_some _ q) (Nat.le_refl _) ?_, rfl, q _ (I.hok.fresh (Nat.le_refl _))⟩
  exact ⟨Nat.le_trans (cutV_length xs lo hi) hz, _, (r.drop (HT.sIx xs.length 0 lo)).take (HT.sIx xs.length xs.length hi - HT.sIx xs.length 0 lo), IsTup.new _ _⟩

/-! ### t < u, t + u -/
def rLtT (K : PySem.W.Frag) : R2 := fun x y H Q => ∃ a b ns ms, x = .ref a ∧ y = .ref b ∧ SqT K H a (ns.map V.int) ∧ SqT K H b (ms.map V.int) ∧ Q (.bl (HT.lexLt ns ms)) H
theorem op_ltT (hu : X.A.units < cLine) : OpR X (compareOp .Lt) (rLtT X.K) := by
  intro pins s σ H x y v u Q I rx ry h
  obtain ⟨a, b, ns, ms, rfl, rfl, ha, hb, q⟩ := h
  cases rx
  cases ry
  obtain ⟨its, r1, p1, _⟩ := I.tuple ha
  obtain ⟨its2, r2, p2, _⟩ := I.tuple hb
  have i1 : IntsAre its.toArray.toList ns := intsAre_of r1
  have i2 : IntsAre its2.toArray.toList ms := intsAre_of r2
  exact HT.lt_tupInts p1 p2 i1 i2 hu ⟨.bl (HT.lexLt ns ms), H, I, rfl, q⟩
/-- t + u, t not empty: u empty gives t itself -/
def rCatT (K : PySem.W.Frag) : R2 := fun x y H Q => ∃ a b xs ys, x = .ref a ∧ y = .ref b ∧ SqT K H a xs ∧ SqT K H b ys ∧ xs ≠ [] ∧ xs.length + ys.length ≤ sizeLine ∧
  (ys = [] → Q (.ref a) H) ∧ (ys ≠ [] → ∀ p, H p = none → Q (.ref p) (upd H p (.tup (xs ++ ys))))
theorem Vals.nil_iff {xs : List V} {us : List Value} (r : Vals xs us) : us = [] ↔ xs = [] := by
  cases r with
  | nil => simp
  | cons _ _ => simp
theorem op_catT : OpR X (binaryOp .Add) (rCatT X.K) := by
  intro pins s σ H x y v u Q I rx ry h
  obtain ⟨a, b, xs, ys, rfl, rfl, ha, hb, hx, hz, q1, q2⟩ := h
  cases rx
  cases ry
  obtain ⟨its, r1, p1, _⟩ := I.tuple ha
  obtain ⟨its2, r2, p2, _⟩ := I.tuple hb
  refine HT.cat_tup p1 p2 (fun z => hx (r1.nil_iff.mp z)) (fun z => ⟨.ref a, H, I, rfl, q1 (r2.nil_iff.mp z)⟩) (fun z => ?_) (by rw [← r1.length, ← r2.length]; exact hz)
  refine ⟨.ref s.heap.objs.size, _, I.laid (t' := s.toks) (o := .tup (xs ++ ys)) (fun b ob q => Heap.get?_push_of_some _ q) (Nat.le_refl _) ?_, rfl, q2 (fun w => z (r2.nil_iff.mpr w)) _ (I.hok.fresh (Nat.le_refl _))⟩
  exact ⟨by rw [List.length_append]; exact hz, _, r1.append r2, IsTup.new _ _⟩
/-- tuple(t) -/
theorem call_tupleT : CallR X (.type "tuple") (fun xs H Q => ∃ a ys, xs = [.ref a] ∧ SqT X.K H a ys ∧ Q (.ref a) H) := by
  intro pins s σ H xs us Q I r h
  obtain ⟨a, ys, rfl, ha, q⟩ := h
  obtain ⟨u, rfl, ru⟩ := vals1 r
  cases ru
  obtain ⟨its, _, p1, _⟩ := I.tuple ha
  exact call_tuple_same (items := its.toArray) p1 ⟨.ref a, H, I, rfl, q⟩
end
end L2

namespace L2
open PySem PySem.Spec PyProof.Rows

/-! ### places -/
/-- the place that an index of any sign means -/
def ixN (n : Nat) (i : Int) : Option Nat := if 0 ≤ i then (if i < n then some i.toNat else none) else if -(n : Int) ≤ i then some (i + n).toNat else none
def atI {α : Type} (xs : List α) (i : Int) : Option α := (ixN xs.length i).bind fun j => xs[j]?
theorem ixN_seq {n : Nat} {i : Int} {j : Nat} (h : ixN n i = some j) : seqIndex? i n = some j ∧ j < n ∧ -(n : Int) ≤ i ∧ i < n := by
  unfold ixN at h
  by_cases h0 : 0 ≤ i
  · rw [if_pos h0] at h
    by_cases h1 : i < n
    · rw [if_pos h1] at h
      have e : i.toNat = j := Option.some.inj h
      exact ⟨by rw [seqIndex_of h0 h1, e], by omega, by omega, h1⟩
    · rw [if_neg h1] at h; cases h
  · rw [if_neg h0] at h
    by_cases h1 : -(n : Int) ≤ i
    · rw [if_pos h1] at h
      have e : (i + n).toNat = j := Option.some.inj h
      exact ⟨by rw [seqIndex_neg (by omega) h1, e], by omega, h1, by omega⟩
    · rw [if_neg h1] at h; cases h
theorem atI_get {α : Type} {xs : List α} {i : Int} {v : α} (h : atI xs i = some v) : ∃ j, seqIndex? i xs.length = some j ∧ xs[j]? = some v ∧ j < xs.length ∧ -(xs.length : Int) ≤ i ∧ i < xs.length := by
  unfold atI at h
  cases e : ixN xs.length i with
  | none => rw [e] at h; cases h
  | some j =>
    rw [e] at h
    obtain ⟨h1, h2, h3, h4⟩ := ixN_seq e
    exact ⟨j, h1, h, h2, h3, h4⟩
theorem atI_nat {α : Type} {xs : List α} {j : Nat} {v : α} (h : xs[j]? = some v) : atI xs (j : Int) = some v := by
  have hj : j < xs.length := (List.getElem?_eq_some_iff.mp h).1
  have e : ixN xs.length (j : Int) = some j := by
    unfold ixN
    rw [if_pos (by omega), if_pos (by omega)]; simp
  unfold atI; rw [e]; exact h
theorem atI_last {α : Type} (xs : List α) (v : α) : atI (xs ++ [v]) (-1) = some v := by
  have hl : (xs ++ [v]).length = xs.length + 1 := by simp
  have e : ixN (xs ++ [v]).length (-1) = some xs.length := by
    unfold ixN
    rw [hl, if_neg (by decide), if_pos (by omega)]
    congr 1
    omega
  unfold atI
  rw [e]
  show (xs ++ [v])[xs.length]? = some v
  simp

/-! ### what may be subscripted -/
/-- what stands as an index of a plain subscript -/
def PlainIx (b : Expr) : Prop := ∀ o i, subscripted b false o i = operate [o, i] (getItem o i)
/-- a subscript by values -/
def IxR (X : Cx) (r : R2) : Prop :=
  ∀ (value slice : Expr) (pins : List (Addr × Obj)) (s : Shared) (σ : St) (H : Hp) (x y : V) (v u : Value) (Q : VK), Inv X pins σ H s → RelV x v → RelV y u → r x y H Q →
    subscripted slice false v u = operate [v, u] (getItem v u) → wpAny (model X.prog X.w) X.A (subscriptTail value slice v u) (EP X pins σ Q) X.xe s
/-- a call of a builtin's method by values: the receiver, the arguments -/
def MtR (X : Cx) (id : String) (r : V → List V → Hp → VK → Prop) : Prop :=
  ∀ (pins : List (Addr × Obj)) (s : Shared) (σ : St) (H : Hp) (x : V) (xs : List V) (v : Value) (us : List Value) (Q : VK), Inv X pins σ H s → RelV x v → Vals xs us → r x xs H Q →
    wpAny (model X.prog X.w) X.A (call (.builtin id) (v :: us)) (EP X pins σ Q) X.xe s
section
variable {X : Cx} {a b : Expr} {ta tb : TE} {pos : Pos}
theorem IxR.or {r r' : R2} (h : IxR X r) (h' : IxR X r') : IxR X (fun x y H Q => r x y H Q ∨ r' x y H Q) := by
  intro value slice pins s σ H x y v u Q I rx ry q hs
  rcases q with q | q
  · exact h value slice pins s σ H x y v u Q I rx ry q hs
  · exact h' value slice pins s σ H x y v u Q I rx ry q hs
theorem MtR.or {id : String} {r r' : V → List V → Hp → VK → Prop} (h : MtR X id r) (h' : MtR X id r') : MtR X id (fun x xs H Q => r x xs H Q ∨ r' x xs H Q) := by
  intro pins s σ H x xs v us Q I rx rs q
  rcases q with q | q
  · exact h pins s σ H x xs v us Q I rx rs q
  · exact h' pins s σ H x xs v us Q I rx rs q
/-- a[b] -/
theorem pe_ix {r : R2} (hr : IxR X r) (ha : PE X a ta) (hb : PE X b tb) (hs : PlainIx b) : PE X (.Subscript a b pos) (tOp r ta tb) := by
  intro pins s σ H Q I h
  exact Subscript_ (binT ha hb I h fun v u s2 x y H2 I2 rx ry q => hr a b pins s2 σ H2 x y v u Q I2 rx ry q (hs _ _))

def rIxL (K : PySem.W.Frag) : R2 := fun x y H Q => ∃ p xs i v, x = .ref p ∧ y = .int i ∧ SqL K H p xs ∧ atI xs i = some v ∧ Q v H
def rIxT (K : PySem.W.Frag) : R2 := fun x y H Q => ∃ p xs i v, x = .ref p ∧ y = .int i ∧ SqT K H p xs ∧ atI xs i = some v ∧ Q v H
def rIxS : R2 := fun x y H Q => ∃ z i c, x = .str z ∧ y = .int i ∧ z.length ≤ sizeLine ∧ atI z.cps.toList i = some c ∧ Q (.str ⟨#[c]⟩) H
theorem ix_list : IxR X (rIxL X.K) := by
  intro value slice pins s σ H x y v u Q I rx ry h hs
  obtain ⟨p, xs, i, z, rfl, rfl, hq, he, q⟩ := h
  cases rx
  obtain ⟨t, rfl⟩ := ry
  obtain ⟨its, r, pl, hz⟩ := I.list hq
  obtain ⟨j, h1, h2, h3, h4, h5⟩ := atI_get he
  obtain ⟨w, ew, rw'⟩ := r.get h2
  have hl := r.length
  have hn := line63
  have fin : EP X pins σ Q w s := ⟨z, H, I, rw', q⟩
  by_cases h0 : 0 ≤ i
  · have hj : i.toNat = j := by
      rw [seqIndex_of h0 h5] at h1
      exact Option.some.inj h1
    exact item_listR pl.isList h0 (by omega) (by rw [hj]; simpa using ew) fin hs
  · have hj : (i + (its.toArray.size : Int)).toNat = j := by
      rw [seqIndex_neg (by omega) h4] at h1
      rw [List.size_toArray, ← hl]
      exact Option.some.inj h1
    exact subscriptTail_builtinR (x := w) pl.isList.typeIs slot_list_getitem.lookup
      (wpAny_getItem_list_neg (Q := fun r s' => r = w ∧ EP X pins σ Q r s') pl.isList (by omega) (by rw [List.size_toArray] <;> omega) (by omega) (by rw [hj]; simpa using ew) ⟨rfl, fin⟩) hs
theorem ix_tup : IxR X (rIxT X.K) := by
  intro value slice pins s σ H x y v u Q I rx ry h hs
  obtain ⟨p, xs, i, z, rfl, rfl, hq, he, q⟩ := h
  cases rx
  obtain ⟨t, rfl⟩ := ry
  obtain ⟨its, r, pl, hz⟩ := I.tuple hq
  obtain ⟨j, h1, h2, h3, h4, h5⟩ := atI_get he
  obtain ⟨w, ew, rw'⟩ := r.get h2
  have hl := r.length
  have hn := line63
  have fin : EP X pins σ Q w s := ⟨z, H, I, rw', q⟩
  exact subscriptTail_builtinR (x := w) pl.typeIs slot_tuple_getitem.lookup
    (getItem_tuple (j := j) (Q := fun r s' => r = w ∧ EP X pins σ Q r s') pl (by omega) (by omega) (by rw [List.size_toArray, ← hl]; exact h1) (by simpa using ew) ⟨rfl, fin⟩) hs
theorem ix_str : IxR X rIxS := by
  intro value slice pins s σ H x y v u Q I rx ry h hs
  obtain ⟨z, i, c, rfl, rfl, hz, he, q⟩ := h
  obtain ⟨t, rfl⟩ := rx
  obtain ⟨t', rfl⟩ := ry
  obtain ⟨j, h1, h2, h3, h4, h5⟩ := atI_get he
  have hl : z.cps.toList.length = z.length := by simp [Str.length]
  rw [hl] at h1 h4 h5
  have hn := line63
  exact tail_any (typeIs_str s z t) slot_str_getitem.lookup (getItem_str (c := c) (by
    have e1 : decide (i < -(2 ^ 63 : Int)) = false := decide_eq_false (by omega)
    have e2 : decide (i ≥ 2 ^ 63) = false := decide_eq_false (by omega)
    rw [e1, e2, Bool.or_false]) (by rw [h1]; simpa using h2) ⟨.str ⟨#[c]⟩, H, I.tok _, ⟨_, rfl⟩, q⟩) hs
/-- list, tuple or str -/
def rIx (K : PySem.W.Frag) : R2 := fun x y H Q => rIxL K x y H Q ∨ rIxT K x y H Q ∨ rIxS x y H Q
theorem ix_seq : IxR X (rIx X.K) := ix_list.or (ix_tup.or ix_str)

/-! ### xs[i] = v, any sign -/
/-- the list's object behind a store -/
theorem mapSeq_set (its : List Value) (n j : Nat) (u : Value) : Obj.mapSeq (·.setIfInBounds j u) { cls := .type "list", data := .seq its.toArray n } = { cls := .type "list", data := .seq (its.set j u).toArray n } := by
  simp [Obj.mapSeq]
theorem Inv.lst {pins : List (Addr × Obj)} {σ : St} {H : Hp} {s : Shared} {p : Addr} {xs : List V} (I : Inv X pins σ H s) (h : H p = some (.lst xs)) :
    ∃ (its : List Value) (n : Nat), Vals xs its ∧ s.heap.get? p = some { cls := .type "list", data := .seq its.toArray n } ∧ xs.length ≤ sizeLine := by
  obtain ⟨z, its, n, r, e⟩ := I.hok p _ h
  exact ⟨its, n, r, e, z⟩
/-- the list at p is written by an update of its object -/
theorem Inv.lstUpd {pins : List (Addr × Obj)} {σ : St} {H : Hp} {s : Shared} {p : Addr} {xs ys : List V} {its its' : List Value} {n n' : Nat} {f : Obj → Obj} (I : Inv X pins σ H s) (h : H p = some (.lst xs))
    (ho : s.heap.get? p = some { cls := .type "list", data := .seq its.toArray n }) (hf : f { cls := .type "list", data := .seq its.toArray n } = { cls := .type "list", data := .seq its'.toArray n' }) (r : Vals ys its') (hz : ys.length ≤ sizeLine) (t : Nat) :
    Inv X pins σ (upd H p (.lst ys)) { s with heap := s.heap.update p f, toks := t } := by
  have e : (s.heap.update p f).get? p = some { cls := .type "list", data := .seq its'.toArray n' } := by
    rw [Heap.get?_update_self f ho (by rw [hf] <;> rfl), hf]
  refine I.write (x := p) (e := p) (by rw [h]; trivial) (.inl rfl) (fun b u hb q => (Heap.get?_update_other _ _ (Ne.symm hb)).trans q) ⟨_, e⟩ ?_
  exact ⟨hz, its', n', r, e⟩
def rSetL : V → V → V → Hp → (Hp → Prop) → Prop := fun o i v H Q => ∃ p xs k j, o = .ref p ∧ i = .int k ∧ H p = some (.lst xs) ∧ ixN xs.length k = some j ∧ Q (upd H p (.lst (xs.set j v)))
theorem set_list : PSet X rSetL := by
  intro pins s σ H o i v ov iv u Q I ro ri rv h
  obtain ⟨p, xs, k, j, rfl, rfl, hp, hj, q⟩ := h
  cases ro
  obtain ⟨t, rfl⟩ := ri
  obtain ⟨its, n, r, ho, hz⟩ := I.lst hp
  obtain ⟨h1, h2, h3, h4⟩ := ixN_seq hj
  have hl := r.length
  have hn := line63
  have I' : Inv X pins σ (upd H p (.lst (xs.set j v))) { s with heap := s.heap.update p (Obj.mapSeq (·.setIfInBounds j u)) } :=
    I.lstUpd hp ho (mapSeq_set its n j u) (r.set rv j) (by rw [List.length_set]; exact hz) s.toks
  by_cases h0 : 0 ≤ k
  · have hk : k.toNat = j := by
      rw [seqIndex_of h0 h4] at h1
      exact Option.some.inj h1
    exact PySem.W.ki_setAt ho h0 (by omega) (by rw [List.size_toArray, ← hl]; exact h4) (by rw [hk]; exact ⟨_, I', q⟩)
  · have hk : (k + (its.toArray.size : Int)).toNat = j := by
      rw [seqIndex_neg (by omega) h3] at h1
      rw [List.size_toArray, ← hl]
      exact Option.some.inj h1
    exact PySem.W.ki_setBack ho (by omega) (by rw [List.size_toArray, ← hl]; exact h3) (by omega) (by rw [hk]; exact ⟨_, I', q⟩)

/-! ### slices -/
theorem slice_bounds (lo hi : Option Int) (n : Nat) : (sliceBounds lo hi none n).1 = ((HT.sIx n 0 lo : Nat) : Int) ∧ (sliceBounds lo hi none n).2.1 = ((HT.sIx n n hi : Nat) : Int) ∧ (sliceBounds lo hi none n).2.2 = 1 := by
  refine ⟨?_, ?_, rfl⟩
  · cases lo with
    | none => simp [sliceBounds, HT.sIx]
    | some i =>
      simp only [sliceBounds, HT.sIx, Option.getD_none, show (1 : Int) > 0 by decide, if_true]
      by_cases h : i < 0
      · simp only [h, if_true] <;> omega
      · simp only [h, if_false] <;> omega
  · cases hi with
    | none => simp [sliceBounds, HT.sIx]
    | some i =>
      simp only [sliceBounds, HT.sIx, Option.getD_none, show (1 : Int) > 0 by decide, if_true]
      by_cases h : i < 0
      · simp only [h, if_true] <;> omega
      · simp only [h, if_false] <;> omega
theorem slicePick_cut (its : List Value) (lo hi : Option Int) : slicePick its.toArray lo hi none = ((its.drop (HT.sIx its.length 0 lo)).take (HT.sIx its.length its.length hi - HT.sIx its.length 0 lo)).toArray := by
  obtain ⟨h1, h2, h3⟩ := slice_bounds lo hi its.toArray.size
  unfold slicePick
  rw [h1, h2, h3]
  simp only [sliceRange_one, pick_run, List.size_toArray] <;> rfl
/-- xs[lo:hi] of a list: a new list -/
def rSlL (K : PySem.W.Frag) : V → Option Int → Option Int → Hp → VK → Prop := fun x lo hi H Q => ∃ a xs, x = .ref a ∧ SqL K H a xs ∧ ∀ p, H p = none → Q (.ref p) (upd H p (.lst (cutV xs lo hi)))
theorem sl_list : SlR X (rSlL X.K) := by
  intro pins s σ H x v vl vu lo hi sl Q I rx hs pl pu h
  obtain ⟨a, xs, rfl, hx, q⟩ := h
  cases rx
  obtain ⟨its, r, ht, hz⟩ := I.list hx
  have hlen := r.length
  refine ⟨"list", _, slot_list_getitem.lookup, ht.isList.typeIs, ?_⟩
  refine wpAny_getItem_list_slice ht.isList hs pl pu .none (by simp) ?_ (by rw [List.size_toArray] <;> omega)
  rw [slicePick_cut, ← hlen]
  refine ⟨.ref s.heap.objs.size, _, I.laid (t' := s.toks) (o := .lst (cutV xs lo hi)) (fun b ob q => Heap.get?_push_of_some _ q) (Nat.le_refl _) ?_, rfl, q _ (I.hok.fresh (Nat.le_refl _))⟩
  exact ⟨Nat.le_trans (cutV_length xs lo hi) hz, _, 0, (r.drop (HT.sIx xs.length 0 lo)).take (HT.sIx xs.length xs.length hi - HT.sIx xs.length 0 lo), Heap.get?_push_size _ rfl⟩

/-! ### in, not in: flat items -/
def flatV : V → Bool
  | .non => true
  | .bl _ => true
  | .int _ => true
  | .str _ => true
  | _ => false
/-- == of flat values -/
def eqV : V → V → Bool
  | .non, .non => true
  | .bl a, .bl b => a == b
  | .bl a, .int b => (if a then 1 else 0) == b
  | .int a, .bl b => a == (if b then 1 else 0)
  | .int a, .int b => a == b
  | .str a, .str b => a == b
  | _, _ => false
theorem eqAt_V {A : Around} {s : Shared} {y x : V} {u v : Value} (ry : RelV y u) (rx : RelV x v) (fy : flatV y = true) (fx : flatV x = true) : SeqAt.EqAt A s u v (eqV y x) := by
  cases y with
  | non =>
    cases ry
    cases x with
    | non => cases rx; exact SeqAt.EqAt.same _
    | bl b => cases rx; exact SeqAt.EqAt.none_bool b
    | int b => obtain ⟨t, rfl⟩ := rx; exact SeqAt.EqAt.none_int b t
    | str b => obtain ⟨t, rfl⟩ := rx; exact SeqAt.EqAt.none_str b t
    | _ => exact absurd (show false = true from fx) Bool.false_ne_true
  | bl a =>
    cases ry
    cases x with
    | non => cases rx; exact SeqAt.EqAt.bool_none a
    | bl b => cases rx; exact SeqAt.EqAt.bool_bool a b
    | int b => obtain ⟨t, rfl⟩ := rx; exact SeqAt.EqAt.bool_int a b t
    | str b => obtain ⟨t, rfl⟩ := rx; exact SeqAt.EqAt.bool_str a b t
    | _ => exact absurd (show false = true from fx) Bool.false_ne_true
  | int a =>
    obtain ⟨t', rfl⟩ := ry
    cases x with
    | non => cases rx; exact SeqAt.EqAt.int_none a t'
    | bl b => cases rx; exact SeqAt.EqAt.int_bool a t' b
    | int b => obtain ⟨t, rfl⟩ := rx; exact SeqAt.EqAt.int_int a t' b t
    | str b => obtain ⟨t, rfl⟩ := rx; exact SeqAt.EqAt.int_str a t' b t
    | _ => exact absurd (show false = true from fx) Bool.false_ne_true
  | str a =>
    obtain ⟨t', rfl⟩ := ry
    cases x with
    | non => cases rx; exact SeqAt.EqAt.str_none a t'
    | bl b => cases rx; exact SeqAt.EqAt.str_bool a t' b
    | int b => obtain ⟨t, rfl⟩ := rx; exact SeqAt.EqAt.str_int a t' b t
    | str b => obtain ⟨t, rfl⟩ := rx; exact SeqAt.EqAt.str_str a t' b t
    | _ => exact absurd (show false = true from fx) Bool.false_ne_true
  | _ => exact absurd (show false = true from fy) Bool.false_ne_true
/-- the items' answers, read off the values (a value's own answer does not lean on its token) -/
def eqU (x : V) (u : Value) : Bool := match u with
  | .none => eqV .non x
  | .bool b => eqV (.bl b) x
  | .int i _ => eqV (.int i) x
  | .str z _ => eqV (.str z) x
  | _ => false
theorem eqU_of {x y : V} {u : Value} (r : RelV y u) (f : flatV y = true) : eqU x u = eqV y x := by
  cases y with
  | non => cases r; rfl
  | bl b => cases r; rfl
  | int i => obtain ⟨t, rfl⟩ := r; rfl
  | str z => obtain ⟨t, rfl⟩ := r; rfl
  | _ => exact absurd (show false = true from f) Bool.false_ne_true
theorem any_eqU {x : V} : ∀ {xs : List V} {us : List Value}, Vals xs us → xs.all flatV = true → us.any (eqU x) = xs.any fun y => eqV y x
  | _, _, .nil, _ => rfl
  | y :: xs, u :: us, .cons r t, f => by
    rw [List.all_cons, Bool.and_eq_true] at f
    rw [List.any_cons, List.any_cons, eqU_of r f.1, any_eqU t f.2]
theorem mem_eqAt {A : Around} {s : Shared} {x : V} {v : Value} (rx : RelV x v) (fx : flatV x = true) : ∀ {xs : List V} {us : List Value}, Vals xs us → xs.all flatV = true → ∀ u ∈ us, SeqAt.EqAt A s u v (eqU x u)
  | _, _, .nil, _ => fun u hu => by cases hu
  | y :: xs, u :: us, .cons r t, f => fun u' hu => by
    rw [List.all_cons, Bool.and_eq_true] at f
    rcases List.mem_cons.mp hu with rfl | hu
    · rw [eqU_of r f.1]; exact eqAt_V r rx f.1 fx
    · exact mem_eqAt rx fx t f.2 u' hu
def inV (x : V) (xs : List V) : Bool := xs.any fun y => eqV y x
/-- x in a list or tuple of flat items -/
def rIn (K : PySem.W.Frag) (neg : Bool) : R2 := fun x y H Q => ∃ p xs, y = .ref p ∧ (SqL K H p xs ∨ SqT K H p xs) ∧ flatV x = true ∧ xs.all flatV = true ∧ Q (.bl (if neg then !inV x xs else inV x xs)) H
theorem op_in_seq : OpR X (compareOp .In) (rIn X.K false) := by
  intro pins s σ H x y v u Q I rx ry h
  obtain ⟨p, xs, rfl, hq, fx, fs, q⟩ := h
  cases ry
  rcases hq with hq | hq
  · obtain ⟨its, r, pl, hz⟩ := I.list hq
    refine SeqAt.in_listAt (eqU x) pl.isList (fun w hw => mem_eqAt rx fx r fs w (by simpa using hw)) ⟨.bl _, H, I, rfl, ?_⟩
    rw [show its.toArray.any (eqU x) = its.any (eqU x) by simp, any_eqU r fs]
    exact q
  · obtain ⟨its, r, pl, hz⟩ := I.tuple hq
    refine SeqAt.in_tupleAt (eqU x) pl (fun w hw => mem_eqAt rx fx r fs w (by simpa using hw)) ⟨.bl _, H, I, rfl, ?_⟩
    rw [show its.toArray.any (eqU x) = its.any (eqU x) by simp, any_eqU r fs]
    exact q
theorem op_notIn_seq : OpR X (compareOp .NotIn) (rIn X.K true) := by
  intro pins s σ H x y v u Q I rx ry h
  obtain ⟨p, xs, rfl, hq, fx, fs, q⟩ := h
  cases ry
  rcases hq with hq | hq
  · obtain ⟨its, r, pl, hz⟩ := I.list hq
    refine SeqAt.notIn_listAt (eqU x) pl.isList (fun w hw => mem_eqAt rx fx r fs w (by simpa using hw)) ⟨.bl _, H, I, rfl, ?_⟩
    rw [show its.toArray.any (eqU x) = its.any (eqU x) by simp, any_eqU r fs]
    exact q
  · obtain ⟨its, r, pl, hz⟩ := I.tuple hq
    refine SeqAt.notIn_tupleAt (eqU x) pl (fun w hw => mem_eqAt rx fx r fs w (by simpa using hw)) ⟨.bl _, H, I, rfl, ?_⟩
    rw [show its.toArray.any (eqU x) = its.any (eqU x) by simp, any_eqU r fs]
    exact q
theorem op_notIn_str : OpR X (compareOp .NotIn) (fun x y H Q => ∃ i j, x = .str i ∧ y = .str j ∧ Q (.bl (!(!(Builtin.Str.occurrences j i 0 j.length 1).isEmpty))) H) := by
  intro pins s σ H x y v u Q I rx ry h
  obtain ⟨i, j, rfl, rfl, q⟩ := h
  obtain ⟨t, rfl⟩ := rx
  obtain ⟨t', rfl⟩ := ry
  exact notIn_str ⟨.bl _, H, I, rfl, q⟩

/-! ### len, list(x), tuple(x) of any list or tuple that is read -/
theorem call_len_seq : CallR X (.builtin "len") (fun xs H Q => ∃ p ys, xs = [.ref p] ∧ (SqL X.K H p ys ∨ SqT X.K H p ys) ∧ Q (.int ys.length) H) := by
  intro pins s σ H xs us Q I r h
  obtain ⟨p, ys, rfl, hq, q⟩ := h
  obtain ⟨u, rfl, rx⟩ := vals1 r
  cases rx
  have hn := line63
  rcases hq with hq | hq
  · obtain ⟨its, r', pl, hz⟩ := I.list hq
    have hlen := r'.length
    exact Calls.call_len_list pl.isList (by simp only [List.size_toArray] <;> omega) ⟨.int ys.length, H, I.tok _, ⟨s.toks + 1, by rw [List.size_toArray, hlen]⟩, q⟩
  · obtain ⟨its, r', pl, hz⟩ := I.tuple hq
    have hlen := r'.length
    exact len_tuple pl (by simp only [List.size_toArray] <;> omega) ⟨.int ys.length, H, I.tok _, ⟨s.toks + 1, by rw [List.size_toArray, hlen]⟩, q⟩
theorem call_len_str : CallR X (.builtin "len") (fun xs H Q => ∃ z, xs = [.str z] ∧ z.length ≤ sizeLine ∧ Q (.int z.length) H) := by
  intro pins s σ H xs us Q I r h
  obtain ⟨z, rfl, hz, q⟩ := h
  obtain ⟨u, rfl, t, rfl⟩ := vals1 r
  have hn := line63
  exact len_str (by omega) ⟨.int z.length, H, I.tok _, ⟨_, rfl⟩, q⟩
theorem CallR.or {f : Value} {r r' : List V → Hp → VK → Prop} (h : CallR X f r) (h' : CallR X f r') : CallR X f (fun xs H Q => r xs H Q ∨ r' xs H Q) := by
  intro pins s σ H xs us Q I rs q
  rcases q with q | q
  · exact h pins s σ H xs us Q I rs q
  · exact h' pins s σ H xs us Q I rs q
theorem call_list_of : CallR X (.type "list") (fun xs H Q => ∃ p ys, xs = [.ref p] ∧ (SqL X.K H p ys ∨ SqT X.K H p ys) ∧ ∀ l, H l = none → Q (.ref l) (upd H l (.lst ys))) := by
  intro pins s σ H xs us Q I r h
  obtain ⟨p, ys, rfl, hq, q⟩ := h
  obtain ⟨u, rfl, rx⟩ := vals1 r
  cases rx
  have fin : ∀ (its : List Value), Vals ys its → ys.length ≤ sizeLine → ∀ (h' : Heap) (c' : Nat), (∀ b o', s.heap.get? b = some o' → h'.get? b = some o') →
      h'.get? s.heap.objs.size = some { cls := .type "list", dict := none, data := .seq its.toArray c', slots := #[] } → EP X pins σ Q (.ref s.heap.objs.size) { s with heap := h' } := fun its r' hz h' c' kp e =>
    ⟨.ref s.heap.objs.size, _, I.laid (t' := s.toks) kp (Nat.le_refl _) (show ObjOk X.prog X.w _ h' _ (.lst ys) from ⟨hz, its, c', r', e⟩), rfl, q _ (I.hok.fresh (Nat.le_refl _))⟩
  rcases hq with hq | hq
  · obtain ⟨its, r', pl, hz⟩ := I.list hq
    have hlen := r'.length
    obtain ⟨o, ho, hc, n, hd⟩ := pl.isList
    exact call_list_seq p (.inl rfl) ho hc hd (fun h' c' kp e => fin its r' hz h' c' kp e) (by simp only [List.size_toArray] <;> omega)
  · obtain ⟨its, r', pl, hz⟩ := I.tuple hq
    have hlen := r'.length
    obtain ⟨o, ho, hc, n, hd⟩ := pl
    exact call_list_seq p (.inr rfl) ho hc hd (fun h' c' kp e => fin its r' hz h' c' kp e) (by simp only [List.size_toArray] <;> omega)
theorem call_tuple_of : CallR X (.type "tuple") (fun xs H Q => ∃ p ys, xs = [.ref p] ∧ ((SqL X.K H p ys ∧ ∀ l, H l = none → Q (.ref l) (upd H l (.tup ys))) ∨ (SqT X.K H p ys ∧ Q (.ref p) H))) := by
  intro pins s σ H xs us Q I r h
  obtain ⟨p, ys, rfl, h⟩ := h
  obtain ⟨u, rfl, rx⟩ := vals1 r
  cases rx
  rcases h with ⟨hq, q⟩ | ⟨hq, q⟩
  · obtain ⟨its, r', pl, hz⟩ := I.list hq
    have hlen := r'.length
    refine call_tuple_list pl.isList (fun h' kp => ?_) (by simp only [List.size_toArray] <;> omega)
    have I1 : Inv X pins σ H { s with heap := h' } := I.kept (t' := s.toks) kp
    have I2 : Inv X pins σ (upd H h'.objs.size (.tup ys)) { s with heap := h'.push { cls := .type "tuple", data := .seq its.toArray } } :=
      I1.laid (t' := s.toks) (fun b o e => Heap.get?_push_of_some _ e) (Nat.le_refl _) (show ObjOk X.prog X.w _ _ _ (.tup ys) from ⟨hz, its, r', IsTup.new _ _⟩)
    exact ⟨.ref h'.objs.size, _, I2, rfl, q _ (I1.hok.fresh (Nat.le_refl _))⟩
  · obtain ⟨its, r', pl, hz⟩ := I.tuple hq
    exact call_tuple_same pl ⟨.ref p, H, I, rfl, q⟩

/-! ### the call of a builtin's method: o.m(..) -/
/-- the value is of that builtin type -/
def tyV (K : PySem.W.Frag) (T : String) (x : V) (H : Hp) : Prop := match x with
  | .str _ => T = "str"
  | .int _ => T = "int"
  | .ref p => (T = "list" ∧ ∃ xs, SqL K H p xs) ∨ (T = "tuple" ∧ ∃ o, K.lookup p = some o ∧ o.cls = .type "tuple" ∧ o.dict = none) ∨
      (T = "dict" ∧ ((∃ kvs, H p = some (.dK kvs)) ∨ ∃ kvs, H p = some (.dT kvs))) ∨ (T = "set" ∧ ∃ S n, H p = some (.set S n))
  | _ => False
theorem tyV_is {pins : List (Addr × Obj)} {σ : St} {H : Hp} {s : Shared} {T : String} {x : V} {v : Value} (I : Inv X pins σ H s) (r : RelV x v) (ty : tyV X.K T x H) :
    s.TypeIs v T ∧ ∀ a, v = .ref a → ∃ ob, s.heap.get? a = some ob ∧ ob.dict = none := by
  cases x with
  | str z =>
    obtain ⟨t, rfl⟩ := r
    cases (show T = "str" from ty)
    exact ⟨typeIs_str s z t, fun _ e => nomatch e⟩
  | int i =>
    obtain ⟨t, rfl⟩ := r
    cases (show T = "int" from ty)
    exact ⟨typeIs_int s i t, fun _ e => nomatch e⟩
  | ref p =>
    cases r
    rcases ty with ⟨rfl, xs, hq⟩ | ⟨rfl, o, hk, hc, hd⟩ | ⟨rfl, hk⟩ | ⟨rfl, S, n, hk⟩
    · obtain ⟨its, _, pl, _⟩ := I.list hq
      refine ⟨pl.isList.typeIs, fun a e => ?_⟩
      cases e
      obtain ⟨o, n, e, c, hd, _⟩ := pl
      exact ⟨o, e, hd⟩
    · refine ⟨⟨o, I.kIn p o hk, hc⟩, fun a e => ?_⟩
      cases e
      exact ⟨o, I.kIn _ o hk, hd⟩
    · have z : ∃ o, s.heap.get? p = some o ∧ o.ExactDict := by
        rcases hk with ⟨kvs, hk⟩ | ⟨kvs, hk⟩
        · obtain ⟨_, _, _, _, o, _, _, e, ex, _⟩ := I.hok p _ hk
          exact ⟨o, e, ex⟩
        · obtain ⟨_, _, _, _, o, _, _, e, ex, _⟩ := I.hok p _ hk
          exact ⟨o, e, ex⟩
      obtain ⟨o, e, ex⟩ := z
      refine ⟨⟨o, e, ex.1⟩, fun a e2 => ?_⟩
      cases e2
      exact ⟨o, e, ex.2.1⟩
    · obtain ⟨o, _, _, _, e, ex, _⟩ := I.hok p _ hk
      refine ⟨⟨o, e, ex.1⟩, fun a e2 => ?_⟩
      cases e2
      exact ⟨o, e, ex.2.1⟩
  | _ => exact False.elim ty
def tBM0 (K : PySem.W.Frag) (T : String) (r : V → List V → Hp → VK → Prop) (to : TE) : TE := fun σ H Q => to σ H fun x H1 => tyV K T x H1 ∧ r x [] H1 Q
def tBM (K : PySem.W.Frag) (T : String) (r : V → List V → Hp → VK → Prop) (to : TE) (t : TA) : TE := fun σ H Q => to σ H fun x H1 => tyV K T x H1 ∧ t σ H1 fun xs H2 => r x xs H2 Q
variable {o e : Expr} {es : List Expr} {to : TE} {t : TA} {name : Str} {apos cpos : Pos} {T id : String} {r : V → List V → Hp → VK → Prop}
theorem pe_bm0 (pa : PlainAttrs T) (slot : Slot T name id) (hty : typeOf (.builtin id) = pure (.type "method_descriptor")) (hm : MtR X id r) (ho : PE X o to)
    (hbase : attributeBase o name X.env (eval o X.env) = eval o X.env := by rfl) (hline : (apos.endLine == cpos.line) = true := by rfl) : PE X (.Call (.Attribute o name apos) [] [] cpos) (tBM0 X.K T r to) := by
  intro pins s σ H Q I h
  refine wpAny_Call_method0_late hbase hline (thn (ho pins s σ H _ I h) fun v s1 ⟨x, H1, I1, r1, ty, q1⟩ => ?_)
  obtain ⟨h1, h2⟩ := tyV_is I1 r1 ty
  exact ⟨T, id, pa, slot, hty, h1, h2, Calls.callWith_builtin rfl (PySem.evalArgs_none (hm pins s1 σ H1 x [] v [] Q I1 r1 .nil q1))⟩
theorem pe_bm (pa : PlainAttrs T) (slot : Slot T name id) (hty : typeOf (.builtin id) = pure (.type "method_descriptor")) (hm : MtR X id r) (ho : PE X o to) (ha : PA X (e :: es) t)
    (hbase : attributeBase o name X.env (eval o X.env) = eval o X.env := by rfl)
    (hfew : ((backTo cpos (starEach (e :: es) X.env)).all (fun x => !x.1) && (backToKw cpos (keywordEach [] X.env)).all (fun x => x.1.isSome)
      && decide ((e :: es).length + ([] : List Keyword).length + (if ([] : List Keyword).isEmpty then 0 else 1) < 30)) = true := by rfl)
    (hline : (apos.endLine == cpos.line) = true := by rfl) (hs : starEach (e :: es) X.env = (false, eval e X.env) :: starEach es X.env := by rfl) (hplain : (backTo cpos (starEach es X.env)).any (·.1) = false := by rfl) :
    PE X (.Call (.Attribute o name apos) (e :: es) [] cpos) (tBM X.K T r to t) := by
  intro pins s σ H Q I h
  refine wpAny_Call_method_late hbase hfew hline rfl (thn (ho pins s σ H _ I h) fun v s1 ⟨x, H1, I1, r1, ty, q1⟩ => ?_)
  obtain ⟨h1, h2⟩ := tyV_is I1 r1 ty
  refine ⟨T, id, pa, slot, hty, h1, h2, ?_⟩
  have hA := ha cpos pins s1 σ H1 _ I1 q1
  rw [hs] at hA ⊢
  refine Calls.callWith_builtin (by show (false || (backTo cpos (starEach es X.env)).any (·.1)) = false; rw [hplain] <;> rfl) (Calls.evalArgs_plain ?_)
  exact thn hA fun us s2 ⟨vs, H2, I2, r2, q2⟩ => hm pins s2 σ H2 x vs v us Q I2 r1 r2 q2
/- xs.append(e), list.index on a module's tuple .. are MtR facts of 06m -/
end
end L2

namespace L2
open PySem PySem.Spec PyProof.Rows

def MtM (X : Cx) (id : String) (r : V → List V → Hp → VK → Prop) : Prop :=
  ∀ (pins : List (Addr × Obj)) (s : Shared) (σ : St) (H : Hp) (x : V) (xs : List V) (v : Value) (us : List Value) (Q : VK), Inv X pins σ H s → RelV x v → Vals xs us → r x xs H Q →
    wpAny (model X.prog X.w) X.A (call (.builtin id) (v :: us)) (EP X pins σ Q) X.xe s

/-! ### lists of values -/
theorem Vals.one : ∀ {x : V} {us : List Value}, Vals [x] us → ∃ u, us = [u] ∧ RelV x u
  | _, _, .cons r .nil => ⟨_, rfl, r⟩
theorem Vals.two : ∀ {x y : V} {us : List Value}, Vals [x, y] us → ∃ u v, us = [u, v] ∧ RelV x u ∧ RelV y v
  | _, _, _, .cons r (.cons q .nil) => ⟨_, _, rfl, r, q⟩
theorem Vals.zero : ∀ {us : List Value}, Vals [] us → us = []
  | _, .nil => rfl
theorem Vals.dropLast {xs : List V} {us : List Value} (h : Vals xs us) : Vals xs.dropLast us.dropLast := by
  induction h with
  | nil => exact .nil
  | cons r t ih =>
    cases t with
    | nil => exact .nil
    | cons q t' => exact .cons r ih
theorem Vals.eraseIdx : ∀ {xs : List V} {us : List Value} (i : Nat), Vals xs us → Vals (xs.eraseIdx i) (us.eraseIdx i)
  | _, _, _, .nil => .nil
  | _, _, 0, .cons _ t => t
  | _, _, i + 1, .cons r t => .cons r (Vals.eraseIdx i t)
theorem Vals.reverse {xs : List V} {us : List Value} (h : Vals xs us) : Vals xs.reverse us.reverse := by
  induction h with
  | nil => exact .nil
  | cons r t ih => rw [List.reverse_cons, List.reverse_cons]; exact Vals.append ih (.cons r .nil)
theorem Vals.rep {xs : List V} {us : List Value} (h : Vals xs us) : ∀ k : Nat, Vals (List.replicate k xs).flatten (List.replicate k us).flatten
  | 0 => .nil
  | k + 1 => by
    rw [List.replicate_succ, List.replicate_succ, List.flatten_cons, List.flatten_cons]
    exact Vals.append h (Vals.rep h k)
theorem erase_last {α : Type} (l : List α) : l.eraseIdx (l.length - 1) = l.dropLast := by
  induction l with
  | nil => rfl
  | cons a r ih =>
    cases r with
    | nil => rfl
    | cons b r =>
      have e : (a :: b :: r).length - 1 = ((b :: r).length - 1) + 1 := by
        have h1 : (a :: b :: r).length = r.length + 2 := rfl
        have h2 : (b :: r).length = r.length + 1 := rfl
        omega
      rw [e, List.eraseIdx_cons_succ, ih]
      all_goals rfl
theorem len_erase {α : Type} : ∀ (l : List α) (i : Nat), (l.eraseIdx i).length ≤ l.length
  | [], _ => Nat.le_refl _
  | _ :: _, 0 => Nat.le_succ _
  | _ :: r, i + 1 => Nat.succ_le_succ (len_erase r i)
theorem foldl_rep (its : List Value) : ∀ (k : Nat) (acc : List Value),
    List.foldl (fun x1 x2 => x1 ++ x2) acc.toArray (List.replicate k its.toArray) = (acc ++ (List.replicate k its).flatten).toArray
  | 0, acc => by simp
  | k + 1, acc => by
    have e : acc.toArray ++ its.toArray = (acc ++ its).toArray := by simp
    have e2 : (acc ++ its) ++ (List.replicate k its).flatten = acc ++ (List.replicate (k + 1) its).flatten := by
      rw [List.replicate_succ, List.flatten_cons, List.append_assoc]
    rw [← e2, ← foldl_rep its k (acc ++ its), ← e, List.replicate_succ, List.foldl_cons]

section
variable {X : Cx} {pins : List (Addr × Obj)} {σ : St} {H : Hp} {s : Shared} {l b : Addr} {xs ys zs : List V}

/-! ### the two steps: a tracked list is rewritten, a new list is laid -/
theorem Inv.lset {its its' : List Value} {n : Nat} {f : Array Value → Array Value} {t' : Nat} (I : Inv X pins σ H s) (hH : H l = some (.lst xs))
    (e : s.heap.get? l = some { cls := .type "list", data := .seq its.toArray n }) (hf : f its.toArray = its'.toArray) (hv : Vals ys its') (hz : ys.length ≤ sizeLine) :
    Inv X pins σ (upd H l (.lst ys)) { s with heap := s.heap.update l (Obj.mapSeq f), toks := t' } := by
  have q := PySem.IsL.update e f
  rw [hf] at q
  refine I.write (x := l) (e := l) (by rw [hH]; exact trivial) (.inl rfl) (fun b' u hb hu => (Heap.get?_update_other s.heap (Obj.mapSeq f) (Ne.symm hb)).trans hu) ⟨_, q⟩ ?_
  exact ⟨hz, its', _, hv, q⟩
theorem Inv.lnew {its : List Value} {t' : Nat} (I : Inv X pins σ H s) (hv : Vals ys its) (hz : ys.length ≤ sizeLine) :
    Inv X pins σ (upd H s.heap.objs.size (.lst ys)) { s with heap := s.heap.push { cls := .type "list", data := .seq its.toArray }, toks := t' } :=
  I.laid (fun _ _ q => Heap.get?_push_of_some _ q) (Nat.le_refl _) ⟨hz, its, 0, hv, Heap.get?_push_size _ rfl⟩
theorem Inv.fresh (I : Inv X pins σ H s) : H s.heap.objs.size = none := I.hok.fresh (Nat.le_refl _)
theorem Inv.lstM (I : Inv X pins σ H s) (hH : H l = some (.lst xs)) : xs.length ≤ sizeLine ∧ ∃ (its : List Value) (n : Nat), Vals xs its ∧ xs.length = its.length ∧ s.heap.get? l = some { cls := .type "list", data := .seq its.toArray n } := by
  obtain ⟨z, its, n, r, e⟩ := I.hok l _ hH
  exact ⟨z, its, n, r, r.length, e⟩

theorem notLongL {n : Nat} (h : n ≤ sizeLine) : Builtin.List.listTooLong n = false := by
  unfold Builtin.List.listTooLong
  exact decide_eq_false (by omega)
end

section
variable {X : Cx}

/-! ### methods -/
def rAppend : V → List V → Hp → VK → Prop := fun x vs H Q => ∃ l xs y, x = .ref l ∧ vs = [y] ∧ H l = some (.lst xs) ∧ xs.length < sizeLine ∧ Q .non (upd H l (.lst (xs ++ [y])))
theorem mt_append : MtM X "list.append" rAppend := by
  intro pins s σ H x vs v us Q I rx rv h
  obtain ⟨l, xs, y, rfl, rfl, hH, hz, q⟩ := h
  cases rx
  obtain ⟨u, rfl, ru⟩ := rv.one
  obtain ⟨z, its, n, r, hl, e⟩ := I.lstM hH
  refine call_meets F.slot_list_append ⟨_, e, rfl⟩ F.entry_list_append (F.args_list_append_2 _ _) (PySem.list_append l its.toArray n u (by rw [List.size_toArray]; omega)) ⟨e, ?_⟩
  refine ⟨.non, _, I.lset (its' := its ++ [u]) hH e (by simp) (r.append (.cons ru .nil)) ?_, rfl, q⟩
  rw [List.length_append, List.length_singleton]
  omega

def rExtend : V → List V → Hp → VK → Prop := fun x vs H Q => ∃ l b xs zs, x = .ref l ∧ vs = [.ref b] ∧ H l = some (.lst xs) ∧ H b = some (.lst zs) ∧ xs.length + zs.length ≤ sizeLine ∧ Q .non (upd H l (.lst (xs ++ zs)))
theorem mt_extend : MtM X "list.extend" rExtend := by
  intro pins s σ H x vs v us Q I rx rv h
  obtain ⟨l, b, xs, zs, rfl, rfl, hH, hB, hz, q⟩ := h
  cases rx
  obtain ⟨u, rfl, ru⟩ := rv.one
  cases ru
  obtain ⟨z, its, n, r, hl, e⟩ := I.lstM hH
  obtain ⟨z2, its2, n2, r2, hl2, e2⟩ := I.lstM hB
  have hsz : its.toArray.size + its2.toArray.size ≤ sizeLine := by rw [List.size_toArray, List.size_toArray]; omega
  have hlong : ¬ (!its.toArray.isEmpty && Builtin.List.listTooLong (its.toArray.size + its2.toArray.size)) = true := by
    rw [notLongL hsz, Bool.and_false]
    exact Bool.false_ne_true
  refine call_meets F.slot_list_extend ⟨_, e, rfl⟩ F.entry_list_extend (F.args_list_extend_2 _ _)
    (AutoSeq1.list_extend_list_list_0 l its.toArray n b its2.toArray n2 hlong (by rw [List.size_toArray]; omega) (by omega)) ⟨e, e2, ?_⟩
  refine ⟨.non, _, I.lset (its' := its ++ its2) hH e (by simp) (r.append r2) ?_, rfl, q⟩
  rw [List.length_append]
  omega

def rPop : V → List V → Hp → VK → Prop := fun x vs H Q => ∃ l xs y, x = .ref l ∧ vs = [] ∧ H l = some (.lst xs) ∧ xs[xs.length - 1]? = some y ∧ Q y (upd H l (.lst xs.dropLast))
theorem mt_pop : MtM X "list.pop" rPop := by
  intro pins s σ H x vs v us Q I rx rv h
  obtain ⟨l, xs, y, rfl, rfl, hH, hy, q⟩ := h
  cases rx
  have hus := rv.zero
  subst hus
  obtain ⟨z, its, n, r, hl, e⟩ := I.lstM hH
  obtain ⟨u, hu, ru⟩ := r.get hy
  have hy' : its.toArray[its.toArray.size - 1]? = some u := by
    show its.toArray[its.length - 1]? = some u
    rw [← Array.getElem?_toList, ← hl]
    exact hu
  refine call_meets F.slot_list_pop ⟨_, e, rfl⟩ F.entry_list_pop (F.args_list_pop_1 _) (MeetsSeq.list_pop_last l its.toArray n u hy' (by rw [List.size_toArray]; omega)) ⟨e, ?_⟩
  refine ⟨y, _, I.lset (its' := its.dropLast) hH e ?_ r.dropLast ?_, ru, q⟩
  · show its.toArray.eraseIdxIfInBounds (its.toArray.size - 1) = its.dropLast.toArray
    rw [List.size_toArray, List.eraseIdxIfInBounds_toArray, erase_last]
  · rw [List.length_dropLast]
    omega

def rPopAt : V → List V → Hp → VK → Prop := fun x vs H Q => ∃ l xs i k y, x = .ref l ∧ vs = [.int i] ∧ H l = some (.lst xs) ∧ -(2 ^ 63) ≤ i ∧ i < 2 ^ 63 ∧ seqIndex? i xs.length = some k ∧ xs[k]? = some y ∧ Q y (upd H l (.lst (xs.eraseIdx k)))
theorem mt_popAt : MtM X "list.pop" rPopAt := by
  intro pins s σ H x vs v us Q I rx rv h
  obtain ⟨l, xs, i, k, y, rfl, rfl, hH, h1, h2, hk, hy, q⟩ := h
  cases rx
  obtain ⟨u, rfl, ru⟩ := rv.one
  obtain ⟨t, rfl⟩ := ru
  obtain ⟨z, its, n, r, hl, e⟩ := I.lstM hH
  obtain ⟨w, hw, rw'⟩ := r.get hy
  refine call_meets F.slot_list_pop ⟨_, e, rfl⟩ F.entry_list_pop (F.args_list_pop_2 _ _)
    (MeetsSeq.list_pop_at l its.toArray n i t k w (fitsIndex_both h1 h2) (by rw [List.size_toArray, ← hl]; exact hk) (by rw [← Array.getElem?_toList]; exact hw) (by rw [List.size_toArray]; omega)) ⟨e, ?_⟩
  refine ⟨y, _, I.lset (its' := its.eraseIdx k) hH e ?_ (r.eraseIdx k) ?_, rw', q⟩
  · show its.toArray.eraseIdxIfInBounds k = (its.eraseIdx k).toArray
    rw [List.eraseIdxIfInBounds_toArray]
  · have := len_erase xs k
    omega

def rReverse : V → List V → Hp → VK → Prop := fun x vs H Q => ∃ l xs, x = .ref l ∧ vs = [] ∧ H l = some (.lst xs) ∧ Q .non (upd H l (.lst xs.reverse))
theorem mt_reverse : MtM X "list.reverse" rReverse := by
  intro pins s σ H x vs v us Q I rx rv h
  obtain ⟨l, xs, rfl, rfl, hH, q⟩ := h
  cases rx
  have hus := rv.zero
  subst hus
  obtain ⟨z, its, n, r, hl, e⟩ := I.lstM hH
  refine call_meets F.slot_list_reverse ⟨_, e, rfl⟩ F.entry_list_reverse (F.args_list_reverse_1 _) (AutoSeq1.list_reverse_list_0 l its.toArray n (by rw [List.size_toArray]; omega)) ⟨e, ?_⟩
  refine ⟨.non, _, I.lset (its' := its.reverse) hH e (by simp) r.reverse ?_, rfl, q⟩
  rw [List.length_reverse]
  omega

def rClear : V → List V → Hp → VK → Prop := fun x vs H Q => ∃ l xs, x = .ref l ∧ vs = [] ∧ H l = some (.lst xs) ∧ Q .non (upd H l (.lst []))
theorem mt_clear : MtM X "list.clear" rClear := by
  intro pins s σ H x vs v us Q I rx rv h
  obtain ⟨l, xs, rfl, rfl, hH, q⟩ := h
  cases rx
  have hus := rv.zero
  subst hus
  obtain ⟨z, its, n, r, hl, e⟩ := I.lstM hH
  refine call_meets F.slot_list_clear ⟨_, e, rfl⟩ F.entry_list_clear (F.args_list_clear_1 _) (AutoSeq1.list_clear_list_0 l its.toArray n (by rw [List.size_toArray]; omega)) ⟨e, ?_⟩
  exact ⟨.non, _, I.lset (its' := []) (ys := []) hH e rfl .nil (Nat.zero_le _), rfl, q⟩

/-! ### list + list, list += list, list * int -/
def rCat : R2 := fun x y H Q => ∃ l b xs zs, x = .ref l ∧ y = .ref b ∧ H l = some (.lst xs) ∧ H b = some (.lst zs) ∧ xs.length + zs.length ≤ sizeLine ∧ ∀ p, H p = none → Q (.ref p) (upd H p (.lst (xs ++ zs)))
theorem op_cat : OpR X (binaryOp .Add) rCat := by
  intro pins s σ H x y v u Q I rx ry h
  obtain ⟨l, b, xs, zs, rfl, rfl, hH, hB, hz, q⟩ := h
  cases rx
  cases ry
  obtain ⟨z, its, n, r, hl, e⟩ := I.lstM hH
  obtain ⟨z2, its2, n2, r2, hl2, e2⟩ := I.lstM hB
  refine PySem.P.add_list e e2 ?_ (by rw [List.size_toArray, List.size_toArray]; omega)
  have ea : its.toArray ++ its2.toArray = (its ++ its2).toArray := by simp
  rw [ea]
  exact ⟨.ref _, _, I.lnew (t' := s.toks) (r.append r2) (by rw [List.length_append]; omega), rfl, q _ I.fresh⟩
/-- a list times an int (a negative one is nothing) -/
def rRep : R2 := fun x y H Q => ∃ l k xs, x = .ref l ∧ y = .int k ∧ H l = some (.lst xs) ∧ -(2 ^ 63) ≤ k ∧ k < 2 ^ 63 ∧ xs.length * k.toNat ≤ sizeLine ∧
  ∀ p, H p = none → Q (.ref p) (upd H p (.lst (List.replicate k.toNat xs).flatten))
theorem len_rep {α : Type} (xs : List α) (k : Nat) : (List.replicate k xs).flatten.length = k * xs.length := by
  induction k with
  | zero => simp
  | succ k ih => rw [List.replicate_succ, List.flatten_cons, List.length_append, ih, Nat.succ_mul, Nat.add_comm]
theorem op_rep : OpR X (binaryOp .Mult) rRep := by
  intro pins s σ H x y v u Q I rx ry h
  obtain ⟨l, k, xs, rfl, rfl, hH, h1, h2, hz, q⟩ := h
  cases rx
  obtain ⟨t, rfl⟩ := ry
  obtain ⟨z, its, n, r, hl, e⟩ := I.lstM hH
  have hlen : its.toArray.size * k.toNat ≤ sizeLine := by rw [List.size_toArray, ← hl]; exact hz
  have hcap : ¬ its.toArray.size * k.toNat > (2 ^ 63 - 1) / 8 := by
    have : (sizeLine : Nat) ≤ (2 ^ 63 - 1) / 8 := by decide
    omega
  have hfit : ¬ (!Builtin.List.listFitsIndex k) = true := by
    rw [fitsIndex_both h1 h2]
    exact Bool.false_ne_true
  have hlong : ¬ Builtin.List.listTooLong (its.toArray.size * k.toNat) = true := by
    rw [notLongL hlen]
    exact Bool.false_ne_true
  have hnew : List.foldl (fun x1 x2 => x1 ++ x2) #[] (List.replicate (if its.toArray.isEmpty = true then 0 else k.toNat) its.toArray) = (List.replicate k.toNat its).flatten.toArray := by
    have f0 : ∀ m : Nat, List.foldl (fun x1 x2 => x1 ++ x2) #[] (List.replicate m its.toArray) = (List.replicate m its).flatten.toArray := fun m => by
      have := foldl_rep its m []
      rw [List.nil_append] at this
      exact this
    rw [f0]
    cases its with
    | nil => simp
    | cons a r' => rw [if_neg (by simp)]
  refine wpAny_binaryOp_repeat_ref (T := "list") (U := "int") (by decide) ⟨_, e, rfl⟩ (fun s' => typeIs_int s' k t) noFill_list_mul F.fills_int_mul F.slot_int_rmul repeat_list F.slot_int_index.lookup
    (call_meets F.slot_int_rmul (typeIs_int s k t) F.entry_int_rmul (F.args_int_rmul_2 _ _) (int___rmul___int_list k t l its.toArray n)
      ⟨e, rfl, ⟨_, e, rfl⟩, call_meets F.slot_list_mul ⟨_, e, rfl⟩ F.entry_list_mul (F.args_list_mul_2 _ _) (AutoListH.list___mul___list_int_3 l its.toArray n k t hfit hcap hlong) ⟨e, ?_⟩⟩)
  rw [hnew]
  exact ⟨.ref _, _, I.lnew (t' := s.toks) (r.rep k.toNat) (by rw [len_rep, Nat.mul_comm]; exact hz), rfl, q _ I.fresh⟩

/-! ### del xs[i] -/
theorem del_list {pins : List (Addr × Obj)} {s : Shared} {σ : St} {H : Hp} {l : Addr} {xs : List V} {i : Int} {t : Tok} {k : Nat} {Q : Unit → Shared → Prop} (I : Inv X pins σ H s) (hH : H l = some (.lst xs))
    (h1 : -(2 ^ 63) ≤ i) (h2 : i < 2 ^ 63) (hk : seqIndex? i xs.length = some k) (h : ∀ s', Inv X pins σ (upd H l (.lst (xs.eraseIdx k))) s' → Q () s') :
    wpAny (model X.prog X.w) X.A (delItem (.ref l) (.int i t)) Q X.xe s := by
  obtain ⟨z, its, n, r, hl, e⟩ := I.lstM hH
  refine PySem.P.delItem_list (k := k) e (fitsIndex_both h1 h2) (by rw [List.size_toArray, ← hl]; exact hk) (h _ ?_) (by rw [List.size_toArray]; omega)
  refine I.lset (its' := its.eraseIdx k) (t' := s.toks) hH e ?_ (r.eraseIdx k) ?_
  · show its.toArray.eraseIdxIfInBounds k = (its.eraseIdx k).toArray
    rw [List.eraseIdxIfInBounds_toArray]
  · have := len_erase xs k
    omega
end

/-! ### xs[a:b] = ys -/
section
variable {prog : Program} {w : World} {A : Around} {E : Value → Shared → Prop} {s : Shared}
theorem splice_eq (its its2 : List Value) (a c : Nat) : its.toArray.extract 0 a ++ its2.toArray ++ its.toArray.extract c its.toArray.size = (its.take a ++ its2 ++ its.drop c).toArray := by
  apply Array.toList_inj.mp
  first
    | (simp
       exact List.take_of_length_le (by simp))
    | simp [List.take_of_length_le]
    | simp
theorem bounds_run {a c n : Nat} (hac : a ≤ c) (hc : c ≤ n) : sliceBounds (some (a : Int)) (some (c : Int)) none n = ((a : Int), (c : Int), 1) := by
  simp only [sliceBounds, Option.getD_none]
  have h1 : ¬ ((a : Int) < 0) := by omega
  have h2 : ¬ ((c : Int) < 0) := by omega
  simp only [h1, h2, if_false, show (1 : Int) > 0 by decide, if_true]
  congr 1
  · omega
  · congr 1; omega
set_option maxRecDepth 100000 in
/-- list.__setitem__ with a slice of step one and another list -/
theorem setItem_slice {l b sl : Addr} {items new : Array Value} {n n2 : Nat} {vl vu : Value} {a c : Nat} {Q : Unit → Shared → Prop}
    (e : s.heap.get? l = some { cls := .type "list", data := .seq items n }) (e2 : s.heap.get? b = some { cls := .type "list", data := .seq new n2 }) (hne : l ≠ b)
    (hs : s.heap.IsSliceOf sl vl vu .none) (pl : IsPart vl (some (a : Int))) (pu : IsPart vu (some (c : Int))) (hac : a ≤ c) (hc : c ≤ items.size)
    (hsz : items.size + new.size ≤ sizeLine) (h : Q () { s with heap := s.heap.update l (Obj.mapSeq fun xs => xs.extract 0 a ++ new ++ xs.extract c xs.size) }) :
    wpAny (model prog w) A (setItem (.ref l) (.ref sl) (.ref b)) Q E s := by
  have hl : s.heap.IsList l items := PySem.IsL.isList e
  have hb : s.heap.IsList b new := PySem.IsL.isList e2
  obtain ⟨os, hos, hcs, hds⟩ := id hs
  have hTs : s.TypeIs (.ref sl) "slice" := ⟨os, hos, hcs⟩
  have hstep : ¬ ((rawPart none == rawInt 0) = true) := Bool.false_ne_true
  have hsame : Builtin.List.listSameRef (.ref l) (.ref b) = false := by
    unfold Builtin.List.listSameRef
    exact beq_eq_false_iff_ne.mpr hne
  have hmax : (max (a : Int) (c : Int)).toNat = c := by omega
  have hz' : ((fun xs : Array Value => xs.extract 0 a ++ new ++ xs.extract c xs.size) items).size ≤ sizeLine + 1 := by
    simp only [Array.size_append, Array.size_extract]
    omega
  unfold setItem
  try with_reducible refine wpAny_holding ?_
  first | refine wpAny_bind (wpAny_pure ?_) | skip
  refine wpAny_bind (wpAny_sequenceKey hl.typeIs (by decide) ?_)
  refine wpAny_bind (wpAny_callSpecial?_slot (name := Str.ofString "__setitem__") hl.typeIs slot_list_setitem
    (wpAny_call_entry slot_list_setitem hl.typeIs entry_list_setitem ?_ (args_list_setitem _ _ _)))
  show wpAny _ _ (Builtin.List.listSubscript? (.ref sl) >>= _) _ _ s
  refine wpAny_bind ?_
  unfold Builtin.List.listSubscript?
  refine wpAny_bind (wpAny_specialOf hTs slice_no_index ?_)
  simp only [Option.isNone_none, if_true]
  refine wpAny_pure ?_
  show wpAny _ _ (typeOf (.ref sl) >>= _) _ _ s
  refine wpAny_bind (wpAny_typeOf hTs ?_)
  first
    | rw [if_neg (by decide)]
    | refine PySem.W.KFB.if_not (by decide) ?_
  rw [listSliceParts_eq]
  refine wpAny_bind (wpAny_bind (wpAny_field hos hds (x := .none) rfl (wpAny_bind (wpAny_listPart .none ?_))))
  rw [if_neg hstep]
  refine wpAny_bind (wpAny_field hos hds (x := vl) rfl (wpAny_bind (wpAny_listPart pl ?_)))
  refine wpAny_bind (wpAny_field hos hds (x := vu) rfl (wpAny_bind (wpAny_listPart pu (wpAny_pure ?_))))
  first
    | simp only [hsame, Bool.false_eq_true, if_false]
    | refine PySem.W.KFB.if_not hsame ?_
    | (dsimp only
       rw [if_neg (by rw [hsame]; exact Bool.false_ne_true)])
  refine wpAny_bind (m := Builtin.List.listAllItems (.ref b) "must assign iterable to extended slice") ?_
  unfold Builtin.List.listAllItems
  refine wpAny_bind (wpAny_typeOf hb.typeIs ?_)
  first
    | refine PySem.W.KFB.if_so (by decide) ?_
    | rw [if_pos (by decide)]
    | simp only [beq_self_eq_true, Bool.true_or, if_true]
  unfold Builtin.List.listItems
  refine wpAny_bind (wpAny_seqItems e2 rfl (wpAny_pure ?_))
  refine wpAny_bind (wpAny_bind (wpAny_seqItems e rfl (wpAny_pure ?_)))
  refine wpAny_bind (wpAny_of_eq ((sliceIndices_raw (some (a : Int)) (some (c : Int)) none items.size (by simp)).trans (congrArg (pure : Int × Int × Int → Sem (Int × Int × Int)) (bounds_run hac hc))) ?_)
  show wpAny _ _ (if ((1 : Int) == 1) = true then _ else _) _ _ s
  rw [if_pos (by decide)]
  refine wpAny_bind (wpAny_rule ?_)
  first
    | simp only [notLongL hsz, Bool.false_eq_true, if_false]
    | refine PySem.W.KFB.if_not (notLongL hsz) ?_
  first | refine wpAny_bind (wpAny_pure ?_) | skip
  show wpAny _ _ (updateSeq l (fun xs => xs.extract 0 ((a : Int)).toNat ++ new ++ xs.extract (max (a : Int) (c : Int)).toNat xs.size) >>= _) _ _ s
  rw [hmax, Int.toNat_natCast]
  refine wpAny_bind (wpAny_updateSeq (hz := Nat.le_trans (Nat.le_add_right _ _) hsz) (_hz' := hz') e rfl ?_)
  refine wpAny_bind (wpAny_letGo ?_)
  first
    | exact wpAny_bind (wpAny_pure (wpAny_pure ⟨.none, rfl, wpAny_pure h⟩))
    | exact wpAny_pure ⟨.none, rfl, wpAny_pure h⟩
end

section
variable {X : Cx}
/-- xs[a:c] = ys of another list, at the value level: sl is the slice object that was just made -/
theorem set_slice {pins : List (Addr × Obj)} {s : Shared} {σ : St} {H : Hp} {l b sl : Addr} {xs ys : List V} {a c : Int} {vl vu : Value} {Q : Unit → Shared → Prop} (I : Inv X pins σ H s)
    (hH : H l = some (.lst xs)) (hB : H b = some (.lst ys)) (hne : l ≠ b) (hs : s.heap.IsSliceOf sl vl vu .none) (ra : RelV (.int a) vl) (rc : RelV (.int c) vu) (h0 : 0 ≤ a) (hac : a ≤ c) (hc : c ≤ xs.length)
    (hz : xs.length + ys.length ≤ sizeLine) (h : ∀ s', Inv X pins σ (upd H l (.lst (xs.take a.toNat ++ ys ++ xs.drop c.toNat))) s' → Q () s') :
    wpAny (model X.prog X.w) X.A (setItem (.ref l) (.ref sl) (.ref b)) Q X.xe s := by
  obtain ⟨ta, rfl⟩ := ra
  obtain ⟨tc, rfl⟩ := rc
  obtain ⟨z, its, n, r, hl, e⟩ := I.lstM hH
  obtain ⟨z2, its2, n2, r2, hl2, e2⟩ := I.lstM hB
  obtain ⟨a', rfl⟩ := Int.eq_ofNat_of_zero_le h0
  obtain ⟨c', rfl⟩ := Int.eq_ofNat_of_zero_le (Int.le_trans h0 hac)
  simp only [Int.toNat_natCast] at h
  refine setItem_slice (a := a') (c := c') e e2 hne hs (.int _ _) (.int _ _) (by omega) (by rw [List.size_toArray]; omega) (by rw [List.size_toArray, List.size_toArray]; omega) (h _ ?_)
  refine I.lset (its' := its.take a' ++ its2 ++ its.drop c') (t' := s.toks) hH e ?_ (Vals.append (Vals.append (r.take _) r2) (r.drop _)) ?_
  · exact splice_eq its its2 a' c'
  · rw [List.length_append, List.length_append, List.length_take, List.length_drop]
    omega
end
end L2

namespace L2
open PySem PySem.Spec PyProof.Rows

theorem Vals.ints : ∀ {ns : List Int} {us : List Value}, Vals (ns.map V.int) us → IntsAre us ns
  | [], us, h => by
    rw [List.map_nil] at h
    cases h
    exact IntsAre.nil
  | n :: ns, us, h => by
    rw [List.map_cons] at h
    cases h with
    | cons r t =>
      obtain ⟨k, rfl⟩ := r
      exact IntsAre.cons n k (Vals.ints t)
theorem vals_of_ints : ∀ {us : List Value} {ns : List Int}, IntsAre us ns → Vals (ns.map V.int) us
  | _, _, .nil => by rw [List.map_nil]; exact Paired.nil
  | _, _, .cons n t h => by rw [List.map_cons]; exact Paired.cons (show RelV (V.int n) (Value.int n t) from ⟨t, rfl⟩) (vals_of_ints h)
theorem Vals.strs : ∀ {xs : List Str} {us : List Value}, Vals (xs.map V.str) us → StrsAre us xs
  | [], us, h => by
    rw [List.map_nil] at h
    cases h
    exact StrsAre.nil
  | x :: xs, us, h => by
    rw [List.map_cons] at h
    cases h with
    | cons r t =>
      obtain ⟨k, rfl⟩ := r
      exact StrsAre.cons x k (Vals.strs t)
theorem vals_of_strs : ∀ {us : List Value} {xs : List Str}, StrsAre us xs → Vals (xs.map V.str) us
  | _, _, .nil => by rw [List.map_nil]; exact Paired.nil
  | _, _, .cons x t h => by rw [List.map_cons]; exact Paired.cons (show RelV (V.str x) (Value.str x t) from ⟨t, rfl⟩) (vals_of_strs h)
theorem Vals.bls : ∀ {bs : List Bool} {us : List Value}, Vals (bs.map V.bl) us → us = bs.map Value.bool
  | [], us, h => by
    rw [List.map_nil] at h
    cases h
    rfl
  | b :: bs, us, h => by
    rw [List.map_cons] at h
    cases h with
    | cons r t =>
      cases r
      rw [Vals.bls t, List.map_cons]
theorem Vals.ref1 {a : Addr} {us : List Value} (r : Vals [V.ref a] us) : us = [Value.ref a] := by
  cases r with
  | cons r t =>
    cases t
    cases r
    rfl
theorem Vals.int2 {i j : Int} {us : List Value} (r : Vals [V.int i, V.int j] us) : ∃ t u, us = [Value.int i t, Value.int j u] := by
  cases r with
  | cons r t =>
    cases t with
    | cons r2 t2 =>
      cases t2
      obtain ⟨t, rfl⟩ := r
      obtain ⟨u, rfl⟩ := r2
      exact ⟨t, u, rfl⟩

/-! ### the library's walks over a list of ints, kept objects alone -/
section
variable {prog : Program} {w : World} {A : Around} {E : Value → Shared → Prop} {s : Shared} {l : Addr} {its : List Value} {ns : List Int} {Q : Value → Shared → Prop}
theorem sum_raw (hh : A.handled = none) (hl : s.heap.IsList l its.toArray) (hi : IntsAre its ns)
    (h : ∀ h' tk t', (∀ b o, s.heap.get? b = some o → h'.get? b = some o) → Q (.int ns.sum t') { s with heap := h', toks := tk }) : wpAny (model prog w) A (call (.builtin "sum") [.ref l]) Q E s := by
  obtain ⟨xs, e⟩ := hi.allInts.items
  have hn : numsOf (intItems xs).toList = ns := by rw [← e]; exact hi.numsOf
  rw [nums_intItems] at hn
  rw [e] at hl
  refine PySem.sum_intListG hh hl fun h' tk t' hk => ?_
  have := h h' tk t' hk
  rw [preSum_eq, List.take_of_length_le (by simp), hn]; exact this
theorem max_raw (hh : A.handled = none) (hl : s.heap.IsList l its.toArray) (hi : IntsAre its ns) (hne : 0 < ns.length)
    (h : ∀ h' tk M t', (∀ b o, s.heap.get? b = some o → h'.get? b = some o) → M ∈ ns → (∀ a, a ∈ ns → a ≤ M) → Q (.int M t') { s with heap := h', toks := tk }) : wpAny (model prog w) A (call (.builtin "max") [.ref l]) Q E s := by
  obtain ⟨xs, e⟩ := hi.allInts.items
  have hn : numsOf (intItems xs).toList = ns := by rw [← e]; exact hi.numsOf
  rw [nums_intItems] at hn
  subst hn
  rw [e] at hl
  have hsz : 0 < xs.size := by simpa using hne
  refine PySem.max_intList hh hl hsz fun v h' tk hv hk => ?_
  obtain ⟨t, rfl⟩ := intItems_at hv
  obtain ⟨h1, h2⟩ := argBest_gt (numAt xs) (xs.size - 1)
  refine h h' tk _ t hk ?_ fun a ha => ?_
  · rw [numAt_eq]; exact PySem.getD_mem (by rw [List.length_map, Array.length_toList]; omega)
  · obtain ⟨j, hj, rfl⟩ := mem_getD ha
    rw [List.length_map, Array.length_toList] at hj
    rw [← numAt_eq]; exact h2 j (by omega)
theorem min_raw (hh : A.handled = none) (hl : s.heap.IsList l its.toArray) (hi : IntsAre its ns) (hne : 0 < ns.length)
    (h : ∀ h' tk M t', (∀ b o, s.heap.get? b = some o → h'.get? b = some o) → M ∈ ns → (∀ a, a ∈ ns → M ≤ a) → Q (.int M t') { s with heap := h', toks := tk }) : wpAny (model prog w) A (call (.builtin "min") [.ref l]) Q E s := by
  obtain ⟨xs, e⟩ := hi.allInts.items
  have hn : numsOf (intItems xs).toList = ns := by rw [← e]; exact hi.numsOf
  rw [nums_intItems] at hn
  subst hn
  rw [e] at hl
  have hsz : 0 < xs.size := by simpa using hne
  refine PySem.min_intList hh hl hsz fun v h' tk hv hk => ?_
  obtain ⟨t, rfl⟩ := intItems_at hv
  obtain ⟨h1, h2⟩ := argBest_lt (numAt xs) (xs.size - 1)
  refine h h' tk _ t hk ?_ fun a ha => ?_
  · rw [numAt_eq]; exact PySem.getD_mem (by rw [List.length_map, Array.length_toList]; omega)
  · obtain ⟨j, hj, rfl⟩ := mem_getD ha
    rw [List.length_map, Array.length_toList] at hj
    rw [← numAt_eq]; exact h2 j (by omega)
end

/-! ### the calls, by values (CallR of 03t; MtR of 06l) -/
section
variable {X : Cx}
/-- sum(xs) of a list of ints -/
def rSum (K : PySem.W.Frag) : List V → Hp → VK → Prop := fun vs H Q => ∃ (a : Addr) (ns : List Int), vs = [V.ref a] ∧ SqL K H a (ns.map V.int) ∧ Q (.int ns.sum) H
/-- max(xs), min(xs) of a list of ints -/
def rMax (K : PySem.W.Frag) : List V → Hp → VK → Prop := fun vs H Q => ∃ (a : Addr) (ns : List Int), vs = [V.ref a] ∧ SqL K H a (ns.map V.int) ∧ 0 < ns.length ∧ ∀ m, m ∈ ns → (∀ y, y ∈ ns → y ≤ m) → Q (.int m) H
def rMin (K : PySem.W.Frag) : List V → Hp → VK → Prop := fun vs H Q => ∃ (a : Addr) (ns : List Int), vs = [V.ref a] ∧ SqL K H a (ns.map V.int) ∧ 0 < ns.length ∧ ∀ m, m ∈ ns → (∀ y, y ∈ ns → m ≤ y) → Q (.int m) H
theorem cr_sum (hc : X.calm = true) : CallR X (.builtin "sum") (rSum X.K) := by
  intro pins s σ H vs us Q I r h
  obtain ⟨a, ns, rfl, hs, q⟩ := h
  obtain ⟨its, rv, hl, _⟩ := I.list hs
  rw [Vals.ref1 r]
  exact sum_raw (I.ok.hd hc) hl.isList rv.ints fun h' tk t' hk => ⟨.int _, H, I.kept hk, ⟨_, rfl⟩, q⟩
theorem cr_max (hc : X.calm = true) : CallR X (.builtin "max") (rMax X.K) := by
  intro pins s σ H vs us Q I r h
  obtain ⟨a, ns, rfl, hs, hne, q⟩ := h
  obtain ⟨its, rv, hl, _⟩ := I.list hs
  rw [Vals.ref1 r]
  exact max_raw (I.ok.hd hc) hl.isList rv.ints hne fun h' tk m t' hk h1 h2 => ⟨.int _, H, I.kept hk, ⟨_, rfl⟩, q m h1 h2⟩
theorem cr_min (hc : X.calm = true) : CallR X (.builtin "min") (rMin X.K) := by
  intro pins s σ H vs us Q I r h
  obtain ⟨a, ns, rfl, hs, hne, q⟩ := h
  obtain ⟨its, rv, hl, _⟩ := I.list hs
  rw [Vals.ref1 r]
  exact min_raw (I.ok.hd hc) hl.isList rv.ints hne fun h' tk m t' hk h1 h2 => ⟨.int _, H, I.kept hk, ⟨_, rfl⟩, q m h1 h2⟩

/-! sorted, sort (fewer than 64 items: the library's own bound) -/
def rSorted (K : PySem.W.Frag) : List V → Hp → VK → Prop := fun vs H Q => ∃ (a : Addr) (ns : List Int), vs = [V.ref a] ∧ SqL K H a (ns.map V.int) ∧ ns.length < 64 ∧
  ∀ (ns' : List Int) (p : Addr), ns'.Perm ns → ns'.Pairwise (· ≤ ·) → H p = none → Q (.ref p) (upd H p (.lst (ns'.map V.int)))
def rSortedS (K : PySem.W.Frag) : List V → Hp → VK → Prop := fun vs H Q => ∃ (a : Addr) (xs : List Str), vs = [V.ref a] ∧ SqL K H a (xs.map V.str) ∧ xs.length < 64 ∧
  ∀ (ys : List Str) (p : Addr), ys.Perm xs → sortedS ys = true → H p = none → Q (.ref p) (upd H p (.lst (ys.map V.str)))
theorem small64 {n : Nat} (h : n < 64) : n ≤ sizeLine := by rw [sizeLine_eq]; omega
theorem cr_sorted : CallR X (.builtin "sorted") (rSorted X.K) := by
  intro pins s σ H vs us Q I r h
  obtain ⟨a, ns, rfl, hs, h64, q⟩ := h
  obtain ⟨its, rv, hl, _⟩ := I.list hs
  rw [Vals.ref1 r]
  have hi := rv.ints
  refine PyProof.Rows.sorted_ints hl.isList hi (by rw [hi.length]; exact h64) fun out ns' h1 h2 h3 => ?_
  obtain ⟨ep, he'⟩ := PyProof.Rows.sortedAll_at s.heap its out
  have hlen : (ns'.map V.int).length ≤ sizeLine := by rw [List.length_map, h2.length_eq]; exact small64 h64
  exact ⟨.ref _, upd H (s.heap.objs.size + 1) (.lst (ns'.map V.int)), I.laid (t' := s.toks) (fun _ _ => PyProof.Rows.sortedAll_old) (Nat.le_succ _) ⟨hlen, out.toList, ep, vals_of_ints h1, he'⟩, rfl, q ns' _ h2 h3 (I.hok.fresh (Nat.le_succ _))⟩
theorem cr_sortedS : CallR X (.builtin "sorted") (rSortedS X.K) := by
  intro pins s σ H vs us Q I r h
  obtain ⟨a, xs, rfl, hs, h64, q⟩ := h
  obtain ⟨its, rv, hl, _⟩ := I.list hs
  rw [Vals.ref1 r]
  have hlen0 := rv.length
  rw [List.length_map] at hlen0
  refine PyProof.Rows.sorted_strs hl.isList rv.strs (by rw [← hlen0]; exact h64) fun out ys h1 h2 h3 => ?_
  obtain ⟨ep, he'⟩ := PyProof.Rows.sortedAll_at s.heap its out
  have hlen : (ys.map V.str).length ≤ sizeLine := by rw [List.length_map, h2.length_eq]; exact small64 h64
  exact ⟨.ref _, upd H (s.heap.objs.size + 1) (.lst (ys.map V.str)), I.laid (t' := s.toks) (fun _ _ => PyProof.Rows.sortedAll_old) (Nat.le_succ _) ⟨hlen, out.toList, ep, vals_of_strs h1, he'⟩, rfl, q ys _ h2 h3 (I.hok.fresh (Nat.le_succ _))⟩
/-- xs.sort(), ints -/
def rSort : V → List V → Hp → VK → Prop := fun x xs H Q => ∃ (a : Addr) (ns : List Int), x = V.ref a ∧ xs = [] ∧ H a = some (.lst (ns.map V.int)) ∧ ns.length < 64 ∧
  ∀ ns' : List Int, ns'.Perm ns → ns'.Pairwise (· ≤ ·) → Q .non (upd H a (.lst (ns'.map V.int)))
theorem mt_sort : MtR X "list.sort" rSort := by
  intro pins s σ H x xs v us Q I rx rxs h
  obtain ⟨a, ns, rfl, rfl, ha, h64, q⟩ := h
  cases rx
  cases rxs
  obtain ⟨hz, its, n, rv, hob⟩ := I.hok a _ ha
  have hi := rv.ints
  refine wpAny_call_entry PyProof.Rows.slot_list_sort ⟨_, hob, rfl⟩ PyProof.Rows.entry_list_sort
    (PyProof.Rows.list_sort_tree hob hi (by rw [hi.length]; exact h64) fun out ns' h1 h2 h3 => ⟨.none, rfl, ?_⟩) (PyProof.Rows.args_list_sort _)
  obtain ⟨ep, he'⟩ := PyProof.Rows.sortedHeap_at (vs := its) (out := out) hob
  have hlen : (ns'.map V.int).length ≤ sizeLine := by rw [List.length_map, h2.length_eq]; exact small64 h64
  refine ⟨.non, upd H a (.lst (ns'.map V.int)), I.write (e := a) (t' := s.toks) (by rw [ha]; trivial) (.inl rfl) (fun b u hb hu => ?_) ⟨_, he'⟩ ⟨hlen, out.toList, ep, vals_of_ints h1, he'⟩, rfl, q ns' h2 h3⟩
  rw [PyProof.Rows.sortedHeap_old hb (Heap.lt_size hu)]; exact hu
end

/-! ### list.index, flat items -/
section
variable {X : Cx}
def rIndex (K : PySem.W.Frag) : V → List V → Hp → VK → Prop := fun x xs H Q => ∃ (a : Addr) (ys : List V) (y : V) (j : Nat) (z : V), x = V.ref a ∧ xs = [y] ∧ SqL K H a ys ∧ flatV y = true ∧ ys.all flatV = true ∧ ys[j]? = some z ∧ eqV z y = true ∧
  (∀ (m : Nat) (z' : V), m < j → ys[m]? = some z' → eqV z' y = false) ∧ Q (.int (j : Nat)) H
theorem flat_at {ys : List V} (f : ys.all flatV = true) {j : Nat} {z : V} (h : ys[j]? = some z) : flatV z = true := List.all_eq_true.mp f z (List.mem_of_getElem? h)
theorem mt_index : MtR X "list.index" (rIndex X.K) := by
  intro pins s σ H x xs v us Q I rx rxs h
  obtain ⟨a, ys, y, j, z, rfl, rfl, hs, fy, fys, hz, hzj, hno, q⟩ := h
  cases rx
  cases rxs with
  | cons ry rt =>
    rename_i uy ut
    cases rt
    obtain ⟨its, rv, ⟨⟨cls, dd, data, sl⟩, n, ho, hc, hdn, hd⟩, hlen⟩ := I.list hs
    simp only at hc hd
    subst hc hd
    obtain ⟨u, hu, ru⟩ := rv.get hz
    obtain ⟨hjl, hje⟩ := List.getElem?_eq_some_iff.mp hu
    have hvl := rv.length
    have hj : j < its.toArray.size := by simpa using hjl
    have hsl := sizeLine_eq
    refine call_meets PySem.F.slot_list_index ⟨_, ho, rfl⟩ PySem.F.entry_list_index (PySem.F.args_list_index_2 _ _)
      (SeqAt.list_indexAt a its.toArray n dd sl uy (eqU y) j hj (by omega) ?_ ?_) ⟨ho, fun u' hu' => mem_eqAt ry fy rv fys u' (by simpa using hu'), ?_⟩
    · have e1 : its.toArray[j] = u := by simpa using hje
      rw [e1, eqU_of ru (flat_at fys hz)]
      exact hzj
    · intro m hm hmj
      have hml : m < its.length := by simpa using hm
      have hmy : m < ys.length := by omega
      have hy' : ys[m]? = some ys[m] := List.getElem?_eq_getElem hmy
      obtain ⟨u2, hu2, ru2⟩ := rv.get hy'
      obtain ⟨_, hme⟩ := List.getElem?_eq_some_iff.mp hu2
      have e1 : its.toArray[m] = u2 := by simpa using hme
      rw [e1, eqU_of ru2 (flat_at fys hy')]
      exact hno m _ hmj hy'
    · exact ⟨.int (j : Nat), H, I.tok _, ⟨_, rfl⟩, q⟩
end

/-! ### type(x) of an own instance; is, is not of a module's class -/
section
variable {X : Cx}
theorem cr_type : CallR X (.type "type") (fun xs H Q => ∃ a C dx fs, xs = [V.ref a] ∧ H a = some (.ins C dx fs) ∧ Q (.ref C) H) := by
  intro pins s σ H xs us Q I r h
  obtain ⟨a, C, dx, fs, rfl, ha, q⟩ := h
  rw [Vals.ref1 r]
  obtain ⟨mA, O, _⟩ := ins_get I.hok ha
  obtain ⟨od, J, _⟩ := O.look
  exact PySem.W.kto_own J ⟨.ref C, H, I, rfl, q⟩
/-- an object of the module whose class is no tuple: a class of the text (makesIn says that its type is a type's heir) -/
theorem cls_there {K : PySem.W.Frag} {C : Addr} (h : PySem.W.makesIn K C = true) : ∃ o, K.lookup C = some o ∧ o.cls ≠ .type "tuple" := by
  unfold PySem.W.makesIn at h
  split at h
  · rename_i oc od cd sl ho
    refine ⟨_, ho, fun e => ?_⟩
    rw [Bool.and_eq_true] at h
    have h2 : PySem.W.instIn K (.ref C) (.type "type") = some true := beq_iff_eq.mp h.2
    have e2 : oc = .type "tuple" := e
    have h3 : PySem.W.instIn K (.ref C) (.type "type") = PySem.W.subIn K oc (.type "type") := by
      show ((K.lookup C).map (fun o => o.cls)).bind (fun t => PySem.W.subIn K t (.type "type")) = _
      rw [ho]
      all_goals rfl
    rw [h3, e2] at h2
    have h4 : PySem.W.subIn K (.type "tuple") (.type "type") = some false := by
      show (fastBuiltinMro "tuple").map (·.contains (.type "type")) = some false
      decide +kernel
    rw [h4] at h2
    cases h2
  · cases h
theorem op_is_cls : OpR X (compareOp .Is) (fun x y H Q => ∃ a b, x = V.ref a ∧ y = V.ref b ∧ (a = b ∨ (PySem.W.makesIn X.K a = true ∧ PySem.W.makesIn X.K b = true)) ∧ Q (.bl (decide (a = b))) H) := by
  intro pins s σ H x y v u Q I rx ry h
  obtain ⟨a, b, rfl, rfl, hab, q⟩ := h
  cases rx
  cases ry
  by_cases z : a = b
  · subst z
    exact wpAny_is_ref_self ⟨.bl _, H, I, by simp [RelV], q⟩
  · rcases hab with e | ⟨h1, h2⟩
    · exact absurd e z
    · obtain ⟨o1, e1, n1⟩ := cls_there h1
      obtain ⟨o2, e2, _⟩ := cls_there h2
      exact wpAny_is_ref_other z (I.kIn _ _ e1) (I.kIn _ _ e2) n1 ⟨.bl _, H, I, by simp [RelV, z], q⟩
theorem op_isnot_cls : OpR X (compareOp .IsNot) (fun x y H Q => ∃ a b, x = V.ref a ∧ y = V.ref b ∧ (a = b ∨ (PySem.W.makesIn X.K a = true ∧ PySem.W.makesIn X.K b = true)) ∧ Q (.bl (!decide (a = b))) H) := by
  intro pins s σ H x y v u Q I rx ry h
  obtain ⟨a, b, rfl, rfl, hab, q⟩ := h
  cases rx
  cases ry
  by_cases z : a = b
  · subst z
    exact wpAny_isNot_ref_self ⟨.bl _, H, I, by simp [RelV], q⟩
  · rcases hab with e | ⟨h1, h2⟩
    · exact absurd e z
    · obtain ⟨o1, e1, n1⟩ := cls_there h1
      obtain ⟨o2, e2, _⟩ := cls_there h2
      exact wpAny_isNot_ref_other z (I.kIn _ _ e1) (I.kIn _ _ e2) n1 ⟨.bl _, H, I, by simp [RelV, z], q⟩
end

/-! ### any(xs), all(xs) of a list of bools -/
theorem iter_any {prog : Program} {w : World} {A : Around} {E : Value → Shared → Prop} {s : Shared} {l : Addr} {items : Array Value} {Q : Value → Shared → Prop} (hl : s.heap.IsList l items)
    (h : ∀ s₂ : Shared, s₂ = { s with heap := s.heap.push { cls := .type "list_iterator", data := .fields #[.ref l, .int 0 0] } } →
      (s₂.heap.IsListIter s.heap.objs.size l 0 ∧ s₂.heap.IsList l items) → l ≠ s.heap.objs.size → Q (.ref s.heap.objs.size) s₂) : wpAny (model prog w) A (pyIter (.ref l)) Q E s := by
  have hlt : l < s.heap.objs.size := by obtain ⟨_, e, _⟩ := hl; exact Heap.lt_size e
  exact wpAny_pyIter_list hl (h _ rfl ⟨⟨_, Heap.get?_push_size _ rfl, rfl, rfl⟩, hl.push _⟩ (Nat.ne_of_lt hlt))
theorem truth_bools {prog : Program} {w : World} {A : Around} {bs : List Bool} {its : List Value} (e : its = bs.map Value.bool) :
    TruthOf prog w A (fun i v => its.toArray[i]? = some v) (fun i => bs.getD i false) := fun i v s Q E hv hq => by
  have hv' : its[i]? = some v := by simpa using hv
  rw [e, List.getElem?_map] at hv'
  obtain ⟨b, hb, rfl⟩ := Option.map_eq_some_iff.mp hv'
  have hg : bs.getD i false = b := by rw [List.getD_eq_getElem?_getD, hb] <;> rfl
  have hq' : Q (bs.getD i false) s := hq
  rw [hg] at hq'
  exact wpAny_truthy_bool hq'
theorem any_range : ∀ bs : List Bool, (List.range bs.length).any (fun i => bs.getD i false) = bs.any id
  | [] => rfl
  | b :: bs => by
    rw [List.length_cons, List.range_succ_eq_map, List.any_cons, List.any_map, List.any_cons, ← any_range bs]
    all_goals rfl
theorem all_range : ∀ bs : List Bool, (List.range bs.length).all (fun i => bs.getD i false) = bs.all id
  | [] => rfl
  | b :: bs => by
    rw [List.length_cons, List.range_succ_eq_map, List.all_cons, List.all_map, List.all_cons, ← all_range bs]
    all_goals rfl
section
variable {X : Cx}
def rAny (K : PySem.W.Frag) : List V → Hp → VK → Prop := fun vs H Q => ∃ (a : Addr) (bs : List Bool), vs = [V.ref a] ∧ SqL K H a (bs.map V.bl) ∧ Q (.bl (bs.any id)) H
def rAll (K : PySem.W.Frag) : List V → Hp → VK → Prop := fun vs H Q => ∃ (a : Addr) (bs : List Bool), vs = [V.ref a] ∧ SqL K H a (bs.map V.bl) ∧ Q (.bl (bs.all id)) H
theorem cr_any (hc : X.calm = true) : CallR X (.builtin "any") (rAny X.K) := by
  intro pins s σ H vs us Q I r h
  obtain ⟨a, bs, rfl, hs, q⟩ := h
  obtain ⟨its, rv, hl, _⟩ := I.list hs
  rw [Vals.ref1 r]
  have hb := rv.bls
  refine call_any_walk (iter_any hl.isList fun s₂ e2 st hne => ?_)
  subst e2
  refine ⟨_, _, _, _, _, _, _, rfl, Walks.list (A := X.A.in1) (I.ok.hd hc) _ a hne its.toArray, st, truth_bools hb, fun h' tk hk => ?_⟩
  refine ⟨.bl _, H, I.kept fun b o eo => hk b o (fun hmem => ?_) (Heap.get?_push_of_some _ eo), ?_, q⟩
  · rcases List.mem_cons.mp hmem with e1 | hmem
    · exact absurd (e1 ▸ Heap.lt_size eo) (Nat.lt_irrefl _)
    · cases hmem
  · show Value.bool _ = Value.bool _
    rw [← any_range, hb, List.size_toArray, List.length_map]
theorem cr_all (hc : X.calm = true) : CallR X (.builtin "all") (rAll X.K) := by
  intro pins s σ H vs us Q I r h
  obtain ⟨a, bs, rfl, hs, q⟩ := h
  obtain ⟨its, rv, hl, _⟩ := I.list hs
  rw [Vals.ref1 r]
  have hb := rv.bls
  refine call_all_walk (iter_any hl.isList fun s₂ e2 st hne => ?_)
  subst e2
  refine ⟨_, _, _, _, _, _, _, rfl, Walks.list (A := X.A.in1) (I.ok.hd hc) _ a hne its.toArray, st, truth_bools hb, fun h' tk hk => ?_⟩
  refine ⟨.bl _, H, I.kept fun b o eo => hk b o (fun hmem => ?_) (Heap.get?_push_of_some _ eo), ?_, q⟩
  · rcases List.mem_cons.mp hmem with e1 | hmem
    · exact absurd (e1 ▸ Heap.lt_size eo) (Nat.lt_irrefl _)
    · cases hmem
  · show Value.bool _ = Value.bool _
    rw [← all_range, hb, List.size_toArray, List.length_map]
end

/-! ### == and != of data at any depth: none, bools, ints, texts, lists, tuples -/
mutual
inductive Dp (K : PySem.W.Frag) (H : Hp) : V → PyData → Prop
  | non : Dp K H .non .none
  | bl (b : Bool) : Dp K H (.bl b) (.bool b)
  | int (i : Int) : Dp K H (.int i) (.int i)
  | str (x : Str) : Dp K H (.str x) (.str x)
  | lst {a : Addr} {xs : List V} {ds : List PyData} : SqL K H a xs → DpAll K H xs ds → Dp K H (.ref a) (.list ds)
  | tup {a : Addr} {xs : List V} {ds : List PyData} : SqT K H a xs → DpAll K H xs ds → Dp K H (.ref a) (.tuple ds)
inductive DpAll (K : PySem.W.Frag) (H : Hp) : List V → List PyData → Prop
  | nil : DpAll K H [] []
  | cons {v : V} {vs : List V} {d : PyData} {ds : List PyData} : Dp K H v d → DpAll K H vs ds → DpAll K H (v :: vs) (d :: ds)
end
section
variable {X : Cx} {pins : List (Addr × Obj)} {σ : St} {H : Hp} {s : Shared}
mutual
theorem Dp.reads (I : Inv X pins σ H s) : ∀ (d : PyData) (v : V) (u : Value), Dp X.K H v d → RelV v u → ∃ as, Reads s.heap u d as
  | .none, _, _, h, r => by
    cases h
    cases r
    exact ⟨_, Reads.none⟩
  | .bool b, _, _, h, r => by
    cases h
    cases r
    exact ⟨_, Reads.bool b⟩
  | .int i, _, _, h, r => by
    cases h
    obtain ⟨t, rfl⟩ := r
    exact ⟨_, Reads.int i t⟩
  | .str x, _, _, h, r => by
    cases h
    obtain ⟨t, rfl⟩ := r
    exact ⟨_, Reads.str x t⟩
  | .list ds, _, _, h, r => by
    cases h with
    | lst hs ha =>
      cases r
      obtain ⟨its, rv, ⟨o, n, ho, hc, _, hd⟩, _⟩ := I.list hs
      obtain ⟨as, hr⟩ := Dp.readsAll I ds _ its ha rv
      exact ⟨_, Reads.list ho hc hd hr⟩
  | .tuple ds, _, _, h, r => by
    cases h with
    | tup hs ha =>
      cases r
      obtain ⟨its, rv, ⟨o, ho, hc, n, hd⟩, _⟩ := I.tuple hs
      obtain ⟨as, hr⟩ := Dp.readsAll I ds _ its ha rv
      exact ⟨_, Reads.tuple ho hc hd hr⟩
  | .dict _, _, _, h, _ => by cases h
theorem Dp.readsAll (I : Inv X pins σ H s) : ∀ (ds : List PyData) (vs : List V) (us : List Value), DpAll X.K H vs ds → Vals vs us → ∃ as, ReadsAll s.heap us ds as
  | [], _, _, h, r => by
    cases h
    cases r
    exact ⟨_, ReadsAll.nil⟩
  | d :: ds, _, _, h, r => by
    cases h with
    | cons h1 h2 =>
      cases r with
      | cons r1 r2 =>
        obtain ⟨as, q1⟩ := Dp.reads I d _ _ h1 r1
        obtain ⟨bs, q2⟩ := Dp.readsAll I ds _ _ h2 r2
        exact ⟨_, ReadsAll.cons q1 q2⟩
end
end
section
variable {X : Cx}
def rEqD (K : PySem.W.Frag) : R2 := fun x y H Q => ∃ d e, Dp K H x d ∧ Dp K H y e ∧ SeqAt.shaped d = true ∧ SeqAt.shaped e = true ∧ Q (.bl (PyData.eqv d e)) H
def rNeD (K : PySem.W.Frag) : R2 := fun x y H Q => ∃ d e, Dp K H x d ∧ Dp K H y e ∧ SeqAt.shaped d = true ∧ SeqAt.shaped e = true ∧ Q (.bl (!PyData.eqv d e)) H
theorem op_eqD (hu : X.A.units + 64 < cLine) : OpR X (compareOp .Eq) (rEqD X.K) := by
  intro pins s σ H x y v u Q I rx ry h
  obtain ⟨d, e, hd, he, sd, se, q⟩ := h
  obtain ⟨as, r1⟩ := Dp.reads I d x v hd rx
  obtain ⟨bs, r2⟩ := Dp.reads I e y u he ry
  exact SeqAt.compareEq_shaped r1 r2 sd se hu ⟨.bl _, H, I, rfl, q⟩
theorem op_neD (hu : X.A.units + 64 < cLine) : OpR X (compareOp .NotEq) (rNeD X.K) := by
  intro pins s σ H x y v u Q I rx ry h
  obtain ⟨d, e, hd, he, sd, se, q⟩ := h
  obtain ⟨as, r1⟩ := Dp.reads I d x v hd rx
  obtain ⟨bs, r2⟩ := Dp.reads I e y u he ry
  exact SeqAt.compareNe_shaped r1 r2 sd se hu ⟨.bl _, H, I, rfl, q⟩
end
end L2

namespace L2
open PySem PySem.Spec PyProof.Rows
abbrev CellAt (h : Heap) (c : Addr) (v : Option Value) : Prop := h.IsCell c v
def relS (scope sc : Scope) : Scope :=
  { scope with names := scope.names.map fun (n, k) => if (k == .free && sc.kind == .function && sc.names.lookup n == some .cell) then (n, .cell) else (n, k) }

def cloFrom (cells : List (Str × Addr)) : List (Str × NameKind) → List (Str × Addr) → List (Str × Addr)
  | [], acc => acc
  | (n, k) :: r, acc => if k == .free then cloFrom cells r ((n, (cells.lookup n).getD 0) :: acc) else cloFrom cells r acc

theorem closure_loop (env : Env) (f : Str × NameKind → List (Str × Addr) → Sem (ForInStep (List (Str × Addr))))
    (hf : ∀ n k c, f (n, k) c = if k == .free then (do let a ← cellOf env n; pure (.yield ((n, a) :: c))) else pure (.yield c)) :
    ∀ (names : List (Str × NameKind)) (acc : List (Str × Addr)), (∀ y ∈ names, y.2 = .free → ∃ c, env.cells.lookup y.1 = some c) → forIn names acc f = pure (cloFrom env.cells names acc)
  | [], acc, _ => by rw [List.forIn_nil]; rfl
  | (n, k) :: r, acc, h => by
    rw [List.forIn_cons, hf]
    have ih := fun acc => closure_loop env f hf r acc fun y hy => h y (List.mem_cons_of_mem _ hy)
    unfold cloFrom
    by_cases hk : (k == NameKind.free) = true
    · rw [if_pos hk, if_pos hk]
      obtain ⟨c, hc⟩ := h (n, k) List.mem_cons_self (by simpa using hk)
      have e : cellOf env n = pure c := by unfold cellOf; rw [hc]
      rw [e]
      have e2 : (env.cells.lookup n).getD 0 = c := by rw [hc]; rfl
      rw [e2]
      exact ih _
    · rw [if_neg hk, if_neg hk]
      exact ih _
theorem closure_ok {scope : Scope} {env : Env} (h : ∀ y ∈ scope.names, y.2 = .free → ∃ c, env.cells.lookup y.1 = some c) : closureFor scope env = pure (cloFrom env.cells scope.names []) := by
  simp only [closureFor]
  rw [closure_loop env _ (fun n k c => rfl) scope.names [] h]
  rfl

theorem mem_lookup {α : Type} : ∀ {l : List (Str × α)} {n : Str} {c : α}, (n, c) ∈ l → ∃ c', l.lookup n = some c'
  | (k, v) :: r, n, c, h => by
    rw [List.lookup_cons]
    cases hb : n == k with
    | true => exact ⟨_, rfl⟩
    | false =>
      rcases List.mem_cons.mp h with e | h
      · cases e; simp at hb
      · exact mem_lookup h

theorem cloFrom_mem {cells : List (Str × Addr)} : ∀ {names : List (Str × NameKind)} {acc : List (Str × Addr)} {n : Str} {c : Addr}, (n, c) ∈ cloFrom cells names acc → (n, c) ∈ acc ∨ ((n, .free) ∈ names ∧ c = (cells.lookup n).getD 0)
  | [], _, _, _, h => .inl h
  | (m, k) :: r, acc, n, c, h => by
    unfold cloFrom at h
    split at h
    · rename_i hk
      have hk : k = .free := by simpa using hk
      rcases cloFrom_mem h with h | ⟨h1, h2⟩
      · rcases List.mem_cons.mp h with e | h
        · cases e; exact .inr ⟨hk ▸ List.mem_cons_self, rfl⟩
        · exact .inl h
      · exact .inr ⟨List.mem_cons_of_mem _ h1, h2⟩
    · rcases cloFrom_mem h with h | ⟨h1, h2⟩
      · exact .inl h
      · exact .inr ⟨List.mem_cons_of_mem _ h1, h2⟩
theorem cloFrom_acc {cells : List (Str × Addr)} : ∀ {names : List (Str × NameKind)} {acc : List (Str × Addr)} {p : Str × Addr}, p ∈ acc → p ∈ cloFrom cells names acc
  | [], _, _, h => h
  | (m, k) :: r, acc, p, h => by
    unfold cloFrom
    split
    · exact cloFrom_acc (List.mem_cons_of_mem _ h)
    · exact cloFrom_acc h
theorem cloFrom_has {cells : List (Str × Addr)} : ∀ {names : List (Str × NameKind)} {acc : List (Str × Addr)} {n : Str}, (n, .free) ∈ names → (n, (cells.lookup n).getD 0) ∈ cloFrom cells names acc
  | (m, k) :: r, acc, n, h => by
    unfold cloFrom
    rcases List.mem_cons.mp h with e | h
    · cases e
      exact cloFrom_acc List.mem_cons_self
    · split
      · exact cloFrom_has h
      · exact cloFrom_has h

theorem cells_mem : ∀ {names : List (Str × NameKind)} {h : Heap} {acc : List (Str × Addr)} {x : Str} {c : Addr}, (x, c) ∈ cellsFrom h.objs.size names acc →
    (x, c) ∈ acc ∨ ((x, .cell) ∈ names ∧ h.objs.size ≤ c ∧ CellAt (pushCells h names) c none)
  | [], _, _, _, _, h => .inl h
  | (n, k) :: r, h, acc, x, c, hm => by
    unfold cellsFrom at hm
    unfold pushCells
    split at hm
    · rename_i hk
      rw [if_pos hk]
      have hk : k = .cell := by simpa using hk
      rw [← Heap.size_push h { cls := .type "cell", data := .cell none }] at hm
      rcases cells_mem hm with hm | ⟨h1, h2, h3⟩
      · rcases List.mem_cons.mp hm with e | hm
        · cases e
          exact .inr ⟨hk ▸ List.mem_cons_self, Nat.le_refl _, _, pushCells_keeps r _ _ _ (Heap.get?_push_size _ rfl), rfl⟩
        · exact .inl hm
      · rw [Heap.size_push] at h2
        exact .inr ⟨List.mem_cons_of_mem _ h1, Nat.le_of_succ_le h2, h3⟩
    · rename_i hk
      rw [if_neg hk]
      rcases cells_mem hm with hm | ⟨h1, h2, h3⟩
      · exact .inl hm
      · exact .inr ⟨List.mem_cons_of_mem _ h1, h2, h3⟩
theorem cells_acc : ∀ {names : List (Str × NameKind)} {n : Nat} {acc : List (Str × Addr)} {p : Str × Addr}, p ∈ acc → p ∈ cellsFrom n names acc
  | [], _, _, _, h => h
  | (m, k) :: r, n, acc, p, h => by
    unfold cellsFrom
    split
    · exact cells_acc (List.mem_cons_of_mem _ h)
    · exact cells_acc h
theorem cells_has : ∀ {names : List (Str × NameKind)} {n : Nat} {acc : List (Str × Addr)} {x : Str}, (x, .cell) ∈ names → ∃ c, (x, c) ∈ cellsFrom n names acc
  | (m, k) :: r, n, acc, x, h => by
    unfold cellsFrom
    rcases List.mem_cons.mp h with e | h
    · cases e
      exact ⟨n, cells_acc List.mem_cons_self⟩
    · split
      · exact cells_has h
      · exact cells_has h
theorem cells_inj : ∀ {names : List (Str × NameKind)} {h : Heap} {acc : List (Str × Addr)} {x y : Str} {c : Addr}, (∀ p ∈ acc, p.2 < h.objs.size) → (∀ x y c, (x, c) ∈ acc → (y, c) ∈ acc → x = y) →
    (x, c) ∈ cellsFrom h.objs.size names acc → (y, c) ∈ cellsFrom h.objs.size names acc → x = y
  | [], _, _, _, _, _, _, hi, h1, h2 => hi _ _ _ h1 h2
  | (n, k) :: r, h, acc, x, y, c, hl, hi, h1, h2 => by
    unfold cellsFrom at h1 h2
    split at h1
    · rename_i hk
      rw [if_pos hk] at h2
      rw [← Heap.size_push h { cls := .type "cell", data := .cell none }] at h1 h2
      refine cells_inj (h := h.push _) (fun p hp => ?_) (fun x y c a b => ?_) h1 h2
      · rw [Heap.size_push]
        rcases List.mem_cons.mp hp with rfl | hp
        · exact Nat.lt_succ_self _
        · exact Nat.lt_succ_of_lt (hl p hp)
      · rcases List.mem_cons.mp a with e | a <;> rcases List.mem_cons.mp b with e' | b
        · cases e; cases e'; rfl
        · cases e; exact absurd (hl _ b) (Nat.lt_irrefl _)
        · cases e'; exact absurd (hl _ a) (Nat.lt_irrefl _)
        · exact hi _ _ _ a b
    · rename_i hk
      rw [if_neg hk] at h2
      exact cells_inj hl hi h1 h2

theorem newEnv_comp {M : Model} {A : Around} {E : Value → Shared → Prop} {s : Shared} {scope : Scope} {globals : Addr} {closure : List (Str × Addr)} {qual : Str} {func : Option Addr} {code : Value} {around : Env} {builtins : Addr} {Q : Env → Shared → Prop}
    (h : Q (newEnv scope s.heap.objs.size globals (cellsFrom (s.heap.objs.size + 1) scope.names closure) qual func code (some around) builtins)
      { s with heap := pushCells (s.heap.push { cls := .type "dict", data := .dict #[] }) scope.names }) :
    wpAny M A (newFunctionEnv scope globals closure [] qual func code (some around) builtins) Q E s := by
  simp only [newFunctionEnv, Option.isSome_some, if_true]
  refine wpAny_bind (wpAny_alloc ?_)
  refine wpAny_bind (wpAny_layCells _ (fun n k c => rfl) scope.names closure _ _ ?_)
  rw [show ({ s with heap := s.heap.push { cls := .type "dict", data := .dict #[] } } : Shared).heap.objs.size = s.heap.objs.size + 1 from Heap.size_push ..]
  rw [List.forIn_nil]
  exact wpAny_bind (wpAny_pure (wpAny_pure h))

/-- every name of the written scope, in the scope that runs -/
theorem lookup_relS {sc : Scope} : ∀ {names : List (Str × NameKind)} {x : Str} {k : NameKind},
    (names.map fun (n, k) => if (k == NameKind.free && sc.kind == .function && sc.names.lookup n == some .cell) then (n, NameKind.cell) else (n, k)).lookup x = some k →
    ∃ k', names.lookup x = some k' ∧ (k = k' ∨ (k' = .free ∧ k = .cell))
  | [], _, _, h => by simp at h
  | (n, k₀) :: r, x, k, h => by
    have ih := @lookup_relS sc r x k
    have h' : List.lookup x ((if (k₀ == NameKind.free && sc.kind == .function && sc.names.lookup n == some .cell) = true then (n, NameKind.cell) else (n, k₀)) :: (r.map _)) = some k := h
    cases hx : x == n with
    | true =>
      simp only [List.lookup_cons, hx]
      by_cases hc : (k₀ == NameKind.free && sc.kind == .function && sc.names.lookup n == some .cell) = true
      · rw [if_pos hc] at h'
        simp only [List.lookup_cons, hx] at h'
        cases h'
        simp only [Bool.and_eq_true, beq_iff_eq] at hc
        exact ⟨k₀, rfl, .inr ⟨hc.1.1, rfl⟩⟩
      · rw [if_neg hc] at h'
        simp only [List.lookup_cons, hx] at h'
        cases h'
        exact ⟨_, rfl, .inl rfl⟩
    | false =>
      simp only [List.lookup_cons, hx]
      by_cases hc : (k₀ == NameKind.free && sc.kind == .function && sc.names.lookup n == some .cell) = true
      · rw [if_pos hc] at h'
        simp only [List.lookup_cons, hx] at h'
        exact ih h'
      · rw [if_neg hc] at h'
        simp only [List.lookup_cons, hx] at h'
        exact ih h'
theorem lookup_relS_keep {sc : Scope} : ∀ {names : List (Str × NameKind)} {x : Str} {k : NameKind}, k ≠ .free → names.lookup x = some k →
    (names.map fun (n, k) => if (k == NameKind.free && sc.kind == .function && sc.names.lookup n == some .cell) then (n, NameKind.cell) else (n, k)).lookup x = some k
  | [], _, _, _, h => by simp at h
  | (n, k₀) :: r, x, k, hk, h => by
    have ih := @lookup_relS_keep sc r x k hk
    show List.lookup x ((if (k₀ == NameKind.free && sc.kind == .function && sc.names.lookup n == some .cell) = true then (n, NameKind.cell) else (n, k₀)) :: (r.map _)) = some k
    cases hx : x == n with
    | true =>
      simp only [List.lookup_cons, hx] at h
      cases h
      have : ¬ (k₀ == NameKind.free && sc.kind == .function && sc.names.lookup n == some .cell) = true := by simp [hk]
      rw [if_neg this]
      simp only [List.lookup_cons, hx]
    | false =>
      simp only [List.lookup_cons, hx] at h
      by_cases hc : (k₀ == NameKind.free && sc.kind == .function && sc.names.lookup n == some .cell) = true
      · rw [if_pos hc]; simp only [List.lookup_cons, hx]; exact ih h
      · rw [if_neg hc]; simp only [List.lookup_cons, hx]; exact ih h

theorem pushCells_size : ∀ (names : List (Str × NameKind)) (h : Heap), h.objs.size ≤ (pushCells h names).objs.size
  | [], _ => Nat.le_refl _
  | (_, k) :: r, h => by
    unfold pushCells
    split
    · refine Nat.le_trans ?_ (pushCells_size r _)
      rw [Heap.size_push]; exact Nat.le_succ _
    · exact pushCells_size r h


/-- the names of a comprehension's block: its own (with their places in N), or captured -/
structure BlkOk (N : List Str) (sc scope : Scope) (own : List (Str × Nat)) : Prop where
  kind : scope.kind = .function
  uniq : ∀ y ∈ scope.names, scope.names.lookup y.1 = some y.2
  ix : ∀ p ∈ own, N[p.2]? = some p.1
  free : ∀ y ∈ scope.names, y.2 = .free → sc.names.lookup y.1 = some .cell ∨ sc.names.lookup y.1 = some .free
  own : ∀ y ∈ scope.names, y.2 = .local ∨ y.2 = .cell → y.1 ∈ own.map (·.1) ∨ y.1 ∉ N
/-- the slots of the block's own names forgotten -/
def wipe (σ : St) : List Nat → St
  | [] => σ
  | v :: vs => (wipe σ vs).set v none
theorem wipe_length (σ : St) : ∀ vs : List Nat, (wipe σ vs).length = σ.length
  | [] => rfl
  | v :: vs => by unfold wipe; rw [List.length_set, wipe_length σ vs]
theorem wipe_some {σ : St} {i : Nat} {x : V} : ∀ {vs : List Nat}, (wipe σ vs)[i]? = some (some x) → σ[i]? = some (some x) ∧ i ∉ vs
  | [], h => ⟨h, by simp⟩
  | v :: vs, h => by
    unfold wipe at h
    by_cases hi : v = i
    · subst hi
      by_cases hv : v < (wipe σ vs).length
      · rw [List.getElem?_set_self hv] at h; cases h
      · rw [List.getElem?_eq_none (by simpa using hv)] at h; cases h
    · rw [List.getElem?_set_ne hi] at h
      obtain ⟨h1, h2⟩ := wipe_some h
      exact ⟨h1, by simp only [List.mem_cons, not_or]; exact ⟨fun e => hi e.symm, h2⟩⟩

/-- the context of a block that starts at s, its iterator's objects at fp -/
abbrev Cx.blk (X : Cx) (s : Shared) (H : Hp) (scope : Scope) (cenv : Env) (fp : List Addr) : Cx := { X with s_0 := s, H_0 := H, env := cenv, outer := X.stack, ex := fp, fn := fun x => scope.names.lookup x == some .cell, pn := [], xe := fun _ _ => False }
section
variable {X : Cx} {pins : List (Addr × Obj)} {σ : St} {H : Hp} {s : Shared}
theorem block_start {scope : Scope} {own : List (Str × Nat)} {fp : List Addr} (I : Inv X pins σ H s) (ok : BlkOk X.N X.env.scope scope own) (hN : X.N.Nodup) (hfp : ∀ b ∈ fp, FpOk X pins H b ∧ b < s.heap.objs.size) :
    Inv (X.blk s H scope (compEnvC scope (cellsFrom (s.heap.objs.size + 1) scope.names (cloFrom X.env.cells scope.names [])) s.heap.objs.size X.env) fp) [] (wipe σ (own.map (·.2))) H { s with heap := pushCells (s.heap.push { cls := .type "dict", data := .dict #[] }) scope.names } := by
  have hfree : ∀ y ∈ scope.names, y.2 = .free → ∃ c, X.env.cells.lookup y.1 = some c := fun y hy e => by
    rcases ok.free y hy e with k | k
    · exact I.ok.has _ (.inl k)
    · exact I.ok.has _ (.inr k)
  generalize hcenv : compEnvC scope (cellsFrom (s.heap.objs.size + 1) scope.names (cloFrom X.env.cells scope.names [])) s.heap.objs.size X.env = cenv
  have kp : ∀ b o, s.heap.get? b = some o → (pushCells (s.heap.push { cls := .type "dict", data := .dict #[] }) scope.names).get? b = some o := fun b o e => pushCells_keeps _ _ _ _ (Heap.get?_push_of_some _ e)
  have hL : cenv.locals = s.heap.objs.size := by rw [← hcenv]; rfl
  have hcl : cenv.cells = cellsFrom (s.heap.objs.size + 1) scope.names (cloFrom X.env.cells scope.names []) := by rw [← hcenv]; rfl
  have hsc : cenv.scope = relS scope X.env.scope := by rw [← hcenv]; rfl
  rw [← Heap.size_push s.heap { cls := .type "dict", data := .dict #[] }] at hcl
  have cm : ∀ {y c}, (y, c) ∈ cloFrom X.env.cells scope.names [] → X.env.cells.lookup y = some c ∧ c < s.heap.objs.size := fun {y c} hm => by
    rcases cloFrom_mem hm with hm | ⟨h1, rfl⟩
    · cases hm
    · obtain ⟨c, hc⟩ := hfree _ h1 rfl
      rw [hc]
      obtain ⟨w, z⟩ := I.cell _ _ hc
      exact ⟨rfl, z.lt⟩
  have mem : ∀ {y c}, cenv.cells.lookup y = some c → (X.env.cells.lookup y = some c ∧ c < s.heap.objs.size) ∨ (s.heap.objs.size + 1 ≤ c ∧ CellAt (pushCells (s.heap.push { cls := .type "dict", data := .dict #[] }) scope.names) c none) := fun {y c} e => by
    rw [hcl] at e
    rcases cells_mem (PySem.mem_of_lookup e) with hm | ⟨_, h2, h3⟩
    · exact .inl (cm hm)
    · rw [Heap.size_push] at h2; exact .inr ⟨h2, h3⟩
  have look : ∀ {y}, scope.names.lookup y = some .free → ∃ c, cenv.cells.lookup y = some c ∧ X.env.cells.lookup y = some c := fun {y} hl => by
    have hy : (y, NameKind.free) ∈ scope.names := PySem.mem_of_lookup hl
    obtain ⟨c', e'⟩ := mem_lookup (cells_acc (names := scope.names) (n := (s.heap.push { cls := .type "dict", data := .dict #[] }).objs.size) (cloFrom_has (cells := X.env.cells) (acc := []) hy))
    rw [← hcl] at e'
    refine ⟨c', e', ?_⟩
    rw [hcl] at e'
    rcases cells_mem (PySem.mem_of_lookup e') with hm | ⟨h1, _, _⟩
    · exact (cm hm).1
    · have := ok.uniq _ h1
      rw [hl] at this; cases this
  have okB : (X.blk s H scope cenv fp).Ok := by
    refine ⟨I.ok.mod, by show cenv.scope.kind = _; rw [hsc]; exact ok.kind, by show cenv.globals = _; rw [← hcenv]; exact I.ok.glob, by show cenv.builtins = _; rw [← hcenv]; exact I.ok.blt, by show s.heap.objs.size ≤ cenv.locals; rw [hL]; exact Nat.le_refl _,
      fun y z c e1 e2 => ?_, fun y hy => ?_, fun y c z e => ?_, I.ok.hd, I.ok.frames, .inl rfl, fun b hb => ⟨?_, fun y c e z => ?_⟩, I.bs, Nat.le_trans I.ok.bsz I.sz, fun b o e hb => ?_, fun b hb z => ?_, I.stack, I.stkFree⟩
    · have e1 : cenv.cells.lookup y = some c := e1
      have e2 : cenv.cells.lookup z = some c := e2
      rw [hcl] at e1 e2
      refine cells_inj (fun p hp => ?_) (fun y z c a b => I.ok.inj y z c (cm a).1 (cm b).1) (PySem.mem_of_lookup e1) (PySem.mem_of_lookup e2)
      rw [Heap.size_push]
      exact Nat.lt_succ_of_lt (cm (y := p.1) (c := p.2) hp).2
    · show ∃ c, cenv.cells.lookup y = some c
      have key : ∀ k, cenv.kindOf y = some k → (k = .cell ∨ k = .free) → ∃ c, cenv.cells.lookup y = some c := fun k hk hk' => by
        unfold Env.kindOf at hk
        rw [hsc] at hk
        obtain ⟨k', e, r⟩ := lookup_relS hk
        have : k' = .cell ∨ k' = .free := by
          rcases r with rfl | ⟨rfl, _⟩
          · exact hk'
          · exact .inr rfl
        rcases this with rfl | rfl
        · obtain ⟨c, hm⟩ := cells_has (n := (s.heap.push { cls := .type "dict", data := .dict #[] }).objs.size) (acc := cloFrom X.env.cells scope.names []) (PySem.mem_of_lookup e)
          obtain ⟨c', e'⟩ := mem_lookup hm
          exact ⟨c', by rw [hcl]; exact e'⟩
        · obtain ⟨c, h1, _⟩ := look e
          exact ⟨c, h1⟩
      rcases hy with hy | hy
      · exact key _ hy (.inl rfl)
      · exact key _ hy (.inr rfl)
    · have z : (scope.names.lookup y == some NameKind.cell) = true := z
      have z : scope.names.lookup y = some .cell := by simpa using z
      have e : cenv.cells.lookup y = some c := e
      rw [hcl] at e
      rcases cells_mem (PySem.mem_of_lookup e) with hm | ⟨_, h2, _⟩
      · rcases cloFrom_mem hm with hm | ⟨h1, _⟩
        · cases hm
        · have q := ok.uniq _ h1
          rw [z] at q; cases q
      · rw [Heap.size_push] at h2
        exact Nat.le_of_succ_le h2
    · show b ≠ cenv.locals
      rw [hL]; exact Nat.ne_of_lt (hfp b hb).2
    · have e : cenv.cells.lookup y = some c := e
      rcases mem e with ⟨h1, _⟩ | ⟨h1, _⟩
      · exact (hfp b hb).1.2.2.2.2.1 y c h1 z
      · have h2 : s.heap.objs.size + 1 ≤ b := by rw [← z]; exact h1
        exact absurd (Nat.lt_of_lt_of_le (hfp b hb).2 (Nat.le_of_succ_le h2)) (Nat.lt_irrefl _)
    · rcases (hfp b hb).1.2.2.2.1 with z | z
      · exact I.ok.noex b o e z
      · exact absurd (Nat.lt_of_lt_of_le (Heap.lt_size e) (Nat.le_trans I.ok.bsz z)) (Nat.lt_irrefl _)
    · rcases List.mem_cons.mp (I.stkSub b z) with z | z
      · exact (hfp b hb).1.2.1 z
      · exact (hfp b hb).1.2.2.1 z
  refine ⟨okB, rfl, I.bare, Un.kept kp, ⟨fun _ => none, ?_, fun i y av e1 e2 e3 => ?_⟩, fun y c e => ?_, ?_, fun y c e => ?_, fun p hp => ?_, I.hok.kept kp, by rw [wipe_length]; exact I.len⟩
  · show Heap.Ns _ cenv.locals _
    rw [hL]
    exact Heap.Ns.keeps (Heap.Ns.new ..) fun b o e => pushCells_keeps _ _ _ _ e
  · obtain ⟨e2, hne⟩ := wipe_some e2
    have hfr : scope.names.lookup y = some .free ∧ (cenv.kindOf y = some .cell ∨ cenv.kindOf y = some .free) := by
      have key : ∀ k, cenv.scope.names.lookup y = some k → k = .local ∨ k = .cell ∨ k = .free → scope.names.lookup y = some .free ∧ (cenv.kindOf y = some .cell ∨ cenv.kindOf y = some .free) := fun k hk hk' => by
        have hk0 := hk
        rw [hsc] at hk
        obtain ⟨k', e, r⟩ := lookup_relS hk
        have no : ¬ (k' = .local ∨ k' = .cell) := fun hh => by
          rcases ok.own _ (PySem.mem_of_lookup e) hh with e' | e'
          · obtain ⟨p, hp, hpy⟩ := List.mem_map.mp e'
            have e3 := ok.ix p hp
            have : p.1 = y := hpy
            rw [this] at e3
            exact hne (List.mem_map.mpr ⟨p, hp, nodup_ix hN e3 e1⟩)
          · exact e' (List.mem_of_getElem? e1)
        rcases r with rfl | ⟨rfl, rfl⟩
        · rcases hk' with rfl | rfl | rfl
          · exact absurd (.inl rfl) no
          · exact absurd (.inr rfl) no
          · exact ⟨e, .inr hk0⟩
        · exact ⟨e, .inl hk0⟩
      have e3 : Vis cenv.scope y := e3
      rcases e3 with e3 | e3 | e3
      · exact key _ e3 (.inl rfl)
      · exact key _ e3 (.inr (.inl rfl))
      · exact key _ e3 (.inr (.inr rfl))
    obtain ⟨m, hn, hl⟩ := I.loc
    have hvis : Vis X.env.scope y := (ok.free _ (PySem.mem_of_lookup hfr.1) rfl).elim (fun k => .inr (.inl k)) (fun k => .inr (.inr k))
    obtain ⟨w, r, q⟩ := hl i y av e1 e2 hvis
    refine ⟨w, r, .inr ⟨hfr.2, ?_⟩⟩
    obtain ⟨c, h1, h2⟩ := look hfr.1
    rcases q with ⟨k, _⟩ | ⟨_, c', e', z⟩
    · have k : X.env.scope.names.lookup y = some .local := k
      rcases ok.free _ (PySem.mem_of_lookup hfr.1) rfl with k' | k' <;> rw [show X.env.scope.names.lookup y = _ from k'] at k <;> cases k
    · rw [h2] at e'; cases e'
      exact ⟨c, h1, z.keeps kp⟩
  · have e : cenv.cells.lookup y = some c := e
    rcases mem e with ⟨h1, _⟩ | ⟨_, z⟩
    · obtain ⟨w, z⟩ := I.cell y c h1
      exact ⟨w, z.keeps kp⟩
    · exact ⟨_, z⟩
  · show H cenv.locals = none
    rw [hL]; exact I.hok.fresh (Nat.le_refl _)
  · have e : cenv.cells.lookup y = some c := e
    rcases mem e with ⟨h1, _⟩ | ⟨h1, _⟩
    · exact I.freeC y c h1
    · exact I.hok.fresh (Nat.le_of_succ_le h1)
  · exact absurd (show p ∈ ([] : List (Addr × Obj)) ++ [] from hp) (by simp)

/-- an item appended to a tracked list -/
theorem app_ok {E : Value → Shared → Prop} {D : Addr} {xs : List V} {y : V} {v : Value} {Q : Value → Shared → Prop} (I : Inv X pins σ H s) (hD : H D = some (.lst xs)) (hz : xs.length < sizeLine) (r : RelV y v)
    (h : ∀ s', Inv X pins σ (upd H D (.lst (xs ++ [y]))) s' → Q .none s') : wpAny (model X.prog X.w) X.A (call (.builtin "list.append") [.ref D, v]) Q E s := by
  obtain ⟨hz', its, n, ri, e⟩ := I.hok D _ hD
  have hl := ri.length
  refine append_at (hsz := by rw [List.size_toArray]; omega) e fun h' sb ho' => ?_
  refine h { s with heap := h' } (I.write (t' := s.toks) (by rw [hD]; trivial) (.inl rfl) (fun b u hb q => (sb.2 b hb).trans q) ⟨_, ho'⟩ ⟨by rw [List.length_append]; exact hz, its ++ [v], n + 1, ri.append (.cons r .nil), ?_⟩)
  rw [ho']
  simp

/-- a clause's tests -/
def PTs (X : Cx) (ifs : List Expr) (t : TT) : Prop :=
  ∀ (pins : List (Addr × Obj)) (s : Shared) (σ : St) (H : Hp) (Q : Bool → Hp → Prop), Inv X pins σ H s → t σ H Q →
    wpAny (model X.prog X.w) X.A (forIn ifs true fun c r => if r = true then do let ok ← isTrue c X.env (eval c X.env); pure (ForInStep.yield ok) else pure (ForInStep.yield r)) (TP X pins σ Q) X.xe s
def tYes : TT := fun _ H Q => Q true H
theorem pts_nil : PTs X [] tYes := fun _ _ _ H _ I h => wpAny_tests_nil ⟨H, I, h⟩
theorem pts_one {c : Expr} {t : TT} (h : PT X c t) : PTs X [c] t := fun pins s σ H Q I hw => wpAny_tests_one (h pins s σ H Q I hw)
end

theorem thnF {α : Type} {t : Sem α} {Q Q' : α → Shared → Prop} {M : Model} {A : Around} {E : Value → Shared → Prop} {s : Shared} (h : wpAny M A t Q (fun _ _ => False) s) (hQ : ∀ a s, Q a s → Q' a s) : wpAny M A t Q' E s := wpAny_mono h hQ fun _ _ z => False.elim z

/-- the loop of a list comprehension's block, the target of any form (codeAny_compLoop_tests asks a target that no tuple goes to; statement and proof follow it, PyProof/CompMap.lean:41-61, with the step letOwnedTupleGo kept) -/
theorem compLoop_any {prog : Program} {w : World} {A : Around} {R : Result → Shared → Prop} {s : Shared} {elt target iter : Expr} {ifs : List Expr} {scope : Scope} {pos : Pos} {it acc : Value} {env : Env} (I : Nat → Shared → Prop)
    (turn : ∀ n s, I n s → wpAny (model prog w) A (pyNext it) (fun r s₁ => match r with
      | none => R (.ok .next) s₁
      | some v => wpAny (model prog w) A (letOwnedTupleGo target it v) (fun _ s₁' => wpAny (model prog w) A (assign target env v) (fun _ s₂ =>
          wpAny (model prog w) A (forIn ifs true fun c r => if r = true then do let ok ← isTrue c env (eval c env); pure (ForInStep.yield ok) else pure (ForInStep.yield r)) (fun ok s₃ =>
            if ok = true then wpAny (model prog w) A (eval elt env) (fun x s₄ =>
              wpAny (model prog w) A (call (.builtin "list.append") [acc, x]) (fun _ s₅ => ∃ m, m < n ∧ I m s₅) (notedBy (model prog w) A env fun e s' => R (.error e) s') s₄) (notedBy (model prog w) A env fun e s' => R (.error e) s') s₃
            else ∃ m, m < n ∧ I m s₃) (notedBy (model prog w) A env fun e s' => R (.error e) s') s₂) (notedBy (model prog w) A env fun e s' => R (.error e) s') s₁') (notedBy (model prog w) A env fun e s' => R (.error e) s') s₁) (notedBy (model prog w) A env fun e s' => R (.error e) s') s)
    (n : Nat) (h : I n s) :
    codeAny (model prog w) A (.compLoop (.ListComp elt [⟨target, iter, ifs, 0⟩] scope pos) 0 it acc env) R s := by
  refine codeAny_loop rfl I (fun n s hI => ?_) n h
  show wpAny _ A ((compTurn (.ListComp elt [⟨target, iter, ifs, 0⟩] scope pos) 0 it acc env).onRaise (fun x => do noteFrame x env; theTreesLotGoes x)) _ _ s
  refine wpAny_noted ?_
  rw [compTurn_list]
  refine wpAny_bind (wpAny_standAt (wpAny_bind (wpAny_mono (turn n s hI) (fun r s₁ h₁ => ?_) fun _ _ h' => h')))
  cases r with
  | none => exact wpAny_pure h₁
  | some v =>
    refine wpAny_bind (wpAny_mono h₁ (fun _ s₁' h₁' => ?_) fun _ _ h' => h')
    refine wpAny_bind (wpAny_mono h₁' (fun _ s₂ h₂ => wpAny_bind (wpAny_mono h₂ (fun ok s₃ h₃ => ?_) fun _ _ h' => h')) fun _ _ h' => h')
    cases ok with
    | false => exact wpAny_pure ⟨rfl, h₃⟩
    | true =>
      exact wpAny_bind (wpAny_bind (wpAny_mono h₃ (fun x s₄ h₄ => wpAny_bind (wpAny_mono h₄ (fun _ s₅ h₅ => wpAny_pure (wpAny_pure ⟨rfl, h₅⟩)) fun _ _ h' => h')) fun _ _ h' => h'))

section
variable {X : Cx}
/-- [elt for target in iter if ..]: D the new list; W by the turn and a measure, Nx what a turn is to reach -/
def tLc (wi : TI) (g : TG) (tt : TT) (te : TE) (vs : List Nat) : TE := fun σ H Q => wi σ H fun J H1 => ∀ D, H1 D = none → ∃ W : Nat → Nat → Hp → Prop, (∃ m, W 0 m (upd H1 D (.lst []))) ∧ ∀ i m H, W i m H →
  (J.stop i H ∧ Q (.ref D) H) ∨ (J.go i H ∧ ∃ Nx : Hp → Prop, (∀ H', Nx H' → ∃ m', m' < m ∧ W (i + 1) m' H') ∧ ∀ x H', J.yld i H x H' → g x (wipe σ vs) H' fun σ2 H2 => wipe σ2 vs = wipe σ vs ∧ tt σ2 H2 fun b H3 =>
    if b = true then te σ2 H3 fun y H4 => ∃ acc, H4 D = some (.lst acc) ∧ acc.length < sizeLine ∧ Nx (upd H4 D (.lst (acc ++ [y]))) else Nx H3)
theorem lc_core {pins : List (Addr × Obj)} {s : Shared} {σ : St} {H : Hp} {Q : VK} {elt tg iter : Expr} {ifs : List Expr} {scope : Scope} {own : List (Str × Nat)} {pos pos' : Pos} {wi : TI} {g : TG} {tt : TT} {te : TE} {use : Option (Value → Sem Unit)} {Qf : Value → Shared → Prop}
    (hc : X.calm = true) (hN : X.N.Nodup) (I : Inv X pins σ H s) (hi : PI X tg iter wi) (ok : BlkOk X.N X.env.scope scope own)
    (hg : ∀ (s : Shared) (H : Hp) (C : Addr) (cl : List (Str × Addr)) (fp : List Addr), PG (X.blk s H scope (compEnvC scope cl C X.env) fp) tg g) (ht : ∀ (s : Shared) (H : Hp) (C : Addr) (cl : List (Str × Addr)) (fp : List Addr), PTs (X.blk s H scope (compEnvC scope cl C X.env) fp) ifs tt)
    (he : ∀ (s : Shared) (H : Hp) (C : Addr) (cl : List (Str × Addr)) (fp : List Addr), PE (X.blk s H scope (compEnvC scope cl C X.env) fp) elt te) (hs : ∀ x, foldedSetIterable iter X.env x = pure x)
    (h : tLc wi g tt te (own.map (·.2)) σ H Q)
    (hRR : ∀ D C s' m H', Inv X pins σ H' s' → Q (.ref D) H' → s'.heap.Ns C m → FpOk X pins H' C → compPost (model X.prog X.w) X.A X.xe use Qf (.ref D) C (.ok .next) s') :
    wpAny (model X.prog X.w) X.A (comprehension (.ListComp elt [⟨tg, iter, ifs, 0⟩] scope pos) scope X.env pos' (newList []) false (eval iter X.env) use) Qf X.xe s := by
  have hfree : ∀ y ∈ scope.names, y.2 = .free → ∃ c, X.env.cells.lookup y.1 = some c := fun y hy e => by
    rcases ok.free y hy e with k | k
    · exact I.ok.has _ (.inl k)
    · exact I.ok.has _ (.inr k)
  refine wpAny_comprehension_free (use := use) rfl hs (closure_ok hfree) ok.kind (fun y hy e => by rw [ok.uniq y hy, e])
    (thn (hi pins s σ H _ I h) fun xv s1 hx => thn hx fun itv s2 h2 => ?_)
  obtain ⟨it, fp, tn, J, H2, e, I2, T, st2, f2, q⟩ := h2
  subst e
  refine wpAny_newObj_type (newEnv_comp ?_) (by show 0 ≤ sizeLine; decide)
  generalize hD : s2.heap.objs.size = D
  have hDn : H2 D = none := I2.hok.fresh (Nat.le_of_eq hD)
  obtain ⟨W, ⟨m0, w0⟩, turn⟩ := q D hDn
  -- the new list
  generalize hs3 : ({ s2 with heap := s2.heap.push { cls := .type "list", data := .seq ([] : List Value).toArray } } : Shared) = s3
  have I3 : Inv X pins σ (upd H2 D (.lst [])) s3 := by
    rw [← hs3]
    refine I2.laid (t' := s2.toks) (fun b o e => Heap.get?_push_of_some _ e) (Nat.le_of_eq hD) ⟨Nat.zero_le _, [], 0, .nil, ?_⟩
    rw [← hD]
    exact Heap.get?_push_size _ rfl
  have h3 : s3.heap = s2.heap.push { cls := .type "list", data := .seq ([] : List Value).toArray } := by rw [← hs3]
  have sz : ∀ b ∈ fp, b < s2.heap.objs.size := fun b hb => by
    obtain ⟨o, e, _⟩ := T.obj _ _ st2 b hb
    exact Heap.lt_size e
  have f3 : ∀ b ∈ fp, FpOk X pins (upd H2 D (.lst [])) b ∧ b < s3.heap.objs.size := fun b hb => by
    have hlt := sz b hb
    refine ⟨⟨?_, (f2 b hb).2⟩, by rw [h3, Heap.size_push]; exact Nat.lt_succ_of_lt hlt⟩
    rw [upd_ne (by rw [← hD]; exact Nat.ne_of_lt hlt)]
    exact (f2 b hb).1
  have st3 : tn 0 s3.heap := T.keep _ _ _ st2 fun b _ o e => by rw [h3]; exact Heap.get?_push_of_some _ e
  have I4 := block_start I3 ok hN f3
  have pg := hg s3 (upd H2 D (.lst [])) s3.heap.objs.size (cellsFrom (s3.heap.objs.size + 1) scope.names (cloFrom X.env.cells scope.names [])) fp
  have pt := ht s3 (upd H2 D (.lst [])) s3.heap.objs.size (cellsFrom (s3.heap.objs.size + 1) scope.names (cloFrom X.env.cells scope.names [])) fp
  have pe := he s3 (upd H2 D (.lst [])) s3.heap.objs.size (cellsFrom (s3.heap.objs.size + 1) scope.names (cloFrom X.env.cells scope.names [])) fp
  show codeAny _ _ (.compStart (.ListComp elt [⟨tg, iter, ifs, 0⟩] scope pos) 0 (.ref it) (.ref D) (compEnvC scope (cellsFrom (s3.heap.objs.size + 1) scope.names (cloFrom X.env.cells scope.names [])) s3.heap.objs.size X.env)) (compPost (model X.prog X.w) X.A X.xe use Qf (.ref D) s3.heap.objs.size) { s3 with heap := pushCells (s3.heap.push { cls := .type "dict", data := .dict #[] }) scope.names }
  have nfp : ∀ b ∈ fp, (upd H2 D (.lst [])) b = none := fun b hb => (f3 b hb).1.1
  generalize hce : compEnvC scope (cellsFrom (s3.heap.objs.size + 1) scope.names (cloFrom X.env.cells scope.names [])) s3.heap.objs.size X.env = ce at I4 pg pt pe ⊢
  have cL : ce.locals = s3.heap.objs.size := by subst hce; rfl
  generalize hH3 : upd H2 D (.lst []) = H3 at I3 I4 pg pt pe w0 nfp f3
  generalize hs4 : ({ s3 with heap := pushCells (s3.heap.push { cls := .type "dict", data := .dict #[] }) scope.names } : Shared) = s4 at I4 ⊢
  have st4 : tn 0 s4.heap := T.keep _ _ _ st3 fun b _ o e => by rw [← hs4]; exact pushCells_keeps _ _ _ _ (Heap.get?_push_of_some _ e)
  have stat : ∀ {σ' : St} {H' : Hp} {s' : Shared}, Inv (X.blk s3 H3 scope ce fp) [] σ' H' s' → (∀ b ∈ fp, H' b = none) → ∀ b ∈ fp, FpOk (X.blk s3 H3 scope ce fp) [] H' b := fun {σ' H' s'} I' hn b hb =>
    ⟨hn b hb, (I'.ok.exf b hb).1, I'.ok.exfs b hb, .inl hb, fun x c e => (I'.ok.exf b hb).2 x c e, fun p hp => absurd (show p ∈ ([] : List (Addr × Obj)) ++ [] from hp) (by simp)⟩
  have loop : codeAny (model X.prog X.w) X.A (.compLoop (.ListComp elt [⟨tg, iter, ifs, 0⟩] scope pos) 0 (.ref it) (.ref D) ce) (compPost (model X.prog X.w) X.A X.xe use Qf (.ref D) s3.heap.objs.size) s4 := by
    refine compLoop_any (fun n s' => ∃ i H', Inv (X.blk s3 H3 scope ce fp) [] (wipe σ (own.map (·.2))) H' s' ∧ tn i s'.heap ∧ (∀ b ∈ fp, H' b = none) ∧ W i n H') ?_ m0 ⟨0, H3, I4, st4, nfp, w0⟩
    rintro n s5 ⟨i, H5, I5, st5, n5, w5⟩
    rcases turn i n H5 w5 with ⟨stop, qq⟩ | ⟨go, Nx, hNx, step⟩
    · have td := T.done (X.blk s3 H3 scope ce fp) rfl rfl rfl hc i [] s5 _ H5 (fun _ _ => False) I5 (stat I5 n5) st5 stop
      refine thnF td fun r s6 ⟨hr, I6⟩ => ?_
      subst hr
      -- back in the def's context
      have I7 : Inv X pins σ H5 s6 := I3.call' (ch := fp) I6.os I6.base I6.hok I6.bare fun b hb => ⟨(f3 b hb).1.2.2.2.1, (f3 b hb).1.2.1, (f3 b hb).1.2.2.2.2.1, (f3 b hb).1.2.2.2.2.2⟩
      have nC : H5 s3.heap.objs.size = none := by
        have z : H5 ce.locals = none := I6.free
        rw [cL] at z
        exact z
      obtain ⟨m, hn, _⟩ := I6.loc
      have hn : s6.heap.Ns ce.locals m := hn
      rw [cL] at hn
      exact hRR D s3.heap.objs.size s6 m H5 I7 qq hn (I3.fpOk (Nat.le_refl _) nC)
    · have ti := T.item (X.blk s3 H3 scope ce fp) rfl rfl rfl hc i [] s5 _ H5 (fun _ _ => False) I5 (stat I5 n5) st5 go
      refine thnF ti fun r s6 ⟨u, hr, h6⟩ => ?_
      subst hr
      refine thnF h6 fun _ s7 ⟨x, H7, I7, r7, y7, st7, n7⟩ => ?_
      have I7' := I7.pinned (stat I7 n7) (T.obj _ _ st7)
      refine thnF (pg _ s7 _ H7 x u _ I7' r7 (step x H7 y7)) fun _ s8 ⟨σ8, H8, I8, hw8, q8⟩ => ?_
      refine thnF (pt _ s8 σ8 H8 _ I8 q8) fun b s9 ⟨H9, I9, q9⟩ => ?_
      -- the turn's end
      have fin : ∀ {s' : Shared} {H' : Hp}, Inv (X.blk s3 H3 scope ce fp) ([] ++ pinsAt fp s7.heap) σ8 H' s' → Nx H' → ∃ m, m < n ∧ ∃ i H', Inv (X.blk s3 H3 scope ce fp) [] (wipe σ (own.map (·.2))) H' s' ∧ tn i s'.heap ∧ (∀ b ∈ fp, H' b = none) ∧ W i m H' := fun {s' H'} I' nx => by
        obtain ⟨m', hm, w'⟩ := hNx H' nx
        have pin' : ∀ b ∈ fp, ∀ o, s7.heap.get? b = some o → s'.heap.get? b = some o ∧ H' b = none := fun b hb o e =>
          let z := I'.pin (b, o) (List.mem_append_right _ (List.mem_append_right _ (mem_pinsAt hb e)))
          ⟨z.1, z.2.1⟩
        have hl : (wipe σ (own.map (·.2))).length = σ8.length := by rw [← hw8, wipe_length]
        refine ⟨m', hm, i + 1, H', (I'.unpinned (pins := [])).weak hl (fun j v e => ?_), T.keep _ _ _ st7 fun b hb o e => (pin' b hb o e).1, fun b hb => ?_, w'⟩
        · rw [← hw8] at e
          exact (wipe_some e).1
        · obtain ⟨o, e, _⟩ := T.obj _ _ st7 b hb
          exact (pin' b hb o e).2
      cases b with
      | false =>
        simp only [Bool.false_eq_true, if_false] at q9 ⊢
        exact fin I9 q9
      | true =>
        simp only [if_true] at q9 ⊢
        refine thnF (pe _ s9 σ8 H9 _ I9 q9) fun z s10 ⟨yv, H10, I10, r10, acc, hD10, hz10, nx⟩ => ?_
        exact app_ok (X := X.blk s3 H3 scope ce fp) I10 hD10 hz10 r10 fun s11 I11 => fin I11 nx
  exact codeAny_compStart_list loop (T.self X.A 0 _ _ _ st4 loop)
/-- as a value -/
theorem pe_lc {elt tg iter : Expr} {ifs : List Expr} {scope : Scope} {own : List (Str × Nat)} {pos : Pos} {wi : TI} {g : TG} {tt : TT} {te : TE} (hc : X.calm = true) (hN : X.N.Nodup) (hi : PI X tg iter wi) (ok : BlkOk X.N X.env.scope scope own)
    (hg : ∀ (s : Shared) (H : Hp) (C : Addr) (cl : List (Str × Addr)) (fp : List Addr), PG (X.blk s H scope (compEnvC scope cl C X.env) fp) tg g) (ht : ∀ (s : Shared) (H : Hp) (C : Addr) (cl : List (Str × Addr)) (fp : List Addr), PTs (X.blk s H scope (compEnvC scope cl C X.env) fp) ifs tt)
    (he : ∀ (s : Shared) (H : Hp) (C : Addr) (cl : List (Str × Addr)) (fp : List Addr), PE (X.blk s H scope (compEnvC scope cl C X.env) fp) elt te) (hs : ∀ x, foldedSetIterable iter X.env x = pure x := by intro _; rfl) :
    PE X (.ListComp elt [⟨tg, iter, ifs, 0⟩] scope pos) (tLc wi g tt te (own.map (·.2))) := by
  intro pins s σ H Q I h
  rw [eval_ListComp]
  refine lc_core hc hN I hi ok hg ht he hs h fun D C s' m H' I' q hn f => ⟨m, hn, fun h'' sb => ?_⟩
  obtain ⟨f0, f1, f2, f3, f4, f5⟩ := f
  exact ⟨.ref D, H', I'.turned (t' := s'.toks) (fun b o hb e => (sb.2 b hb).trans e) f0 f1 f3 f4 f5, rfl, q⟩
/-- name = [..] on one line, the name a local -/
theorem ps_setLc {i : Nat} {y : Str} {py : Pos} {elt tg iter : Expr} {ifs : List Expr} {scope : Scope} {own : List (Str × Nat)} {pos spos : Pos} {wi : TI} {g : TG} {tt : TT} {te : TE} (hc : X.calm = true) (hN : X.N.Nodup) (hy : X.N[i]? = some y) (hyl : X.env.scope.names.lookup y = some .local)
    (hsw : swapsWith (.ListComp elt [⟨tg, iter, ifs, 0⟩] scope pos) (some (.Name y py)) spos.line X.env = pure true) (hi : PI X tg iter wi) (ok : BlkOk X.N X.env.scope scope own)
    (hg : ∀ (s : Shared) (H : Hp) (C : Addr) (cl : List (Str × Addr)) (fp : List Addr), PG (X.blk s H scope (compEnvC scope cl C X.env) fp) tg g) (ht : ∀ (s : Shared) (H : Hp) (C : Addr) (cl : List (Str × Addr)) (fp : List Addr), PTs (X.blk s H scope (compEnvC scope cl C X.env) fp) ifs tt)
    (he : ∀ (s : Shared) (H : Hp) (C : Addr) (cl : List (Str × Addr)) (fp : List Addr), PE (X.blk s H scope (compEnvC scope cl C X.env) fp) elt te) (hs : ∀ x, foldedSetIterable iter X.env x = pure x := by intro _; rfl) :
    PS X (.Assign [.Name y py] (.ListComp elt [⟨tg, iter, ifs, 0⟩] scope pos) spos) (tAsg (tLc wi g tt te (own.map (·.2))) (gName i)) := by
  intro pins s σ H D I h
  rw [exec_Assign_Name_used _ _ _ _ hsw]
  refine wpAny_bind (wpAny_standAt (wpAny_bind ?_))
  show wpAny _ X.A (do let _ ← comprehension (.ListComp elt [⟨tg, iter, ifs, 0⟩] scope pos) scope X.env (firstIterPos [⟨tg, iter, ifs, 0⟩] pos) (newList []) false (eval iter X.env) (some (assign (.Name y py) X.env))) _ _ s
  have h : tLc wi g tt te (own.map (·.2)) σ H (fun x H1 => gName i x σ H1 D.nx) := h
  refine wpAny_bind (thn (lc_core (Qf := fun _ s' => SP X pins D .next s') hc hN I hi ok hg ht he hs h fun L C s' m H' I' q hn f => ?_) fun _ s' hq => wpAny_pure (wpAny_pure hq))
  show wpAny _ _ (assign (.Name y py) X.env (.ref L)) _ _ _
  refine wpAny_assign_Name (store_ok2 (v := V.ref L) I' hN hy (.inl hyl) rfl (fun s2 I2 ⟨a, sb, ha⟩ => ?_) (.inr hyl))
  obtain ⟨f0, f1, f2, f3, f4, f5⟩ := f
  have haC : C ≠ a := by
    rcases ha with z | z
    · rw [z]; exact f1
    · exact fun e => f4 y a z e.symm
  refine ⟨m, hn.sameBut sb haC, fun h3 sb3 => ?_⟩
  exact ⟨_, H', I2.turned (t' := s2.toks) (fun b o hb e => (sb3.2 b hb).trans e) f0 f1 f3 f4 f5, q⟩
theorem sw_true {elt : Expr} {gs : List Comprehension} {scope : Scope} {pos py : Pos} {y : Str} {l : Nat} {env : Env} (hk : env.scope.kind = .function) (hy : env.scope.names.lookup y = some .local) (hl : (py.line == pos.line) = true)
    (ha : (scope.names.any fun (n, k) => n == y && (k == .local || k == .cell)) = false) : swapsWith (.ListComp elt gs scope pos) (some (.Name y py)) l env = pure true := by
  have ky : env.kindOf y = some .local := hy
  have hb : env.blockKind = .function := by unfold Env.blockKind; rw [hk]; rfl
  unfold swapsWith
  simp only [hb, ky, ha, Expr.pos, hl]
  rfl
end

/-! ### the forms one uses -/
/-- over a range: Pv by the turn and the heap (the new list at D within) -/
theorem lc_range {lo : Int} {n : Nat} {g : TG} {tt : TT} {te : TE} {vs : List Nat} {σ : St} {H1 : Hp} {D : Addr} {Qd : Hp → Prop} (Pv : Nat → Hp → Prop) (h0 : Pv 0 (upd H1 D (.lst [])))
    (hs : ∀ i H, i < n → Pv i H → g (.int (lo + i)) (wipe σ vs) H fun σ2 H2 => wipe σ2 vs = wipe σ vs ∧ tt σ2 H2 fun b H3 =>
      if b = true then te σ2 H3 fun y H4 => ∃ acc, H4 D = some (.lst acc) ∧ acc.length < sizeLine ∧ Pv (i + 1) (upd H4 D (.lst (acc ++ [y]))) else Pv (i + 1) H3) (hd : ∀ H, Pv n H → Qd H) :
    ∃ W : Nat → Nat → Hp → Prop, (∃ m, W 0 m (upd H1 D (.lst []))) ∧ ∀ i m H, W i m H →
      ((Itr lo n).stop i H ∧ Qd H) ∨ ((Itr lo n).go i H ∧ ∃ Nx : Hp → Prop, (∀ H', Nx H' → ∃ m', m' < m ∧ W (i + 1) m' H') ∧ ∀ x H', (Itr lo n).yld i H x H' → g x (wipe σ vs) H' fun σ2 H2 => wipe σ2 vs = wipe σ vs ∧ tt σ2 H2 fun b H3 =>
        if b = true then te σ2 H3 fun y H4 => ∃ acc, H4 D = some (.lst acc) ∧ acc.length < sizeLine ∧ Nx (upd H4 D (.lst (acc ++ [y]))) else Nx H3) := by
  refine ⟨fun i m H => m = n - i ∧ i ≤ n ∧ Pv i H, ⟨n, by simp, Nat.zero_le _, h0⟩, ?_⟩
  rintro i m H ⟨rfl, hi, p⟩
  by_cases hlt : i < n
  · refine .inr ⟨hlt, Pv (i + 1), fun H' p' => ⟨n - (i + 1), by omega, rfl, hlt, p'⟩, fun x H' y => ?_⟩
    obtain ⟨e, y⟩ := y
    subst e y
    exact hs i _ hlt p
  · have e : i = n := by omega
    subst e
    exact .inl ⟨Nat.le_refl _, hd H p⟩
/-- over a list that the block leaves as it is -/
theorem lc_list {K : PySem.W.Frag} {a : Addr} {xs : List V} {g : TG} {tt : TT} {te : TE} {vs : List Nat} {σ : St} {H1 : Hp} {D : Addr} {Qd : Hp → Prop} (Pv : Nat → Hp → Prop) (h0 : Pv 0 (upd H1 D (.lst []))) (hl : ∀ i H, i ≤ xs.length → Pv i H → SqL K H a xs)
    (hs : ∀ i x H, xs[i]? = some x → Pv i H → g x (wipe σ vs) H fun σ2 H2 => wipe σ2 vs = wipe σ vs ∧ tt σ2 H2 fun b H3 =>
      if b = true then te σ2 H3 fun y H4 => ∃ acc, H4 D = some (.lst acc) ∧ acc.length < sizeLine ∧ Pv (i + 1) (upd H4 D (.lst (acc ++ [y]))) else Pv (i + 1) H3) (hd : ∀ H, Pv xs.length H → Qd H) :
    ∃ W : Nat → Nat → Hp → Prop, (∃ m, W 0 m (upd H1 D (.lst []))) ∧ ∀ i m H, W i m H →
      ((Itl K a).stop i H ∧ Qd H) ∨ ((Itl K a).go i H ∧ ∃ Nx : Hp → Prop, (∀ H', Nx H' → ∃ m', m' < m ∧ W (i + 1) m' H') ∧ ∀ x H', (Itl K a).yld i H x H' → g x (wipe σ vs) H' fun σ2 H2 => wipe σ2 vs = wipe σ vs ∧ tt σ2 H2 fun b H3 =>
        if b = true then te σ2 H3 fun y H4 => ∃ acc, H4 D = some (.lst acc) ∧ acc.length < sizeLine ∧ Nx (upd H4 D (.lst (acc ++ [y]))) else Nx H3) := by
  refine ⟨fun i m H => m = xs.length - i ∧ i ≤ xs.length ∧ Pv i H, ⟨xs.length, by simp, Nat.zero_le _, h0⟩, ?_⟩
  rintro i m H ⟨rfl, hi, p⟩
  have q := hl i H hi p
  by_cases hlt : i < xs.length
  · refine .inr ⟨⟨xs, xs[i], q, by simp [hlt]⟩, Pv (i + 1), fun H' p' => ⟨xs.length - (i + 1), by omega, rfl, hlt, p'⟩, fun x H' y => ?_⟩
    obtain ⟨e, y⟩ := y
    subst e
    exact hs i x _ (y xs q) p
  · have e : i = xs.length := by omega
    subst e
    exact .inl ⟨⟨xs, q, Nat.le_refl _⟩, hd H p⟩
/-- over a tuple -/
theorem lc_tup {K : PySem.W.Frag} {a : Addr} {xs : List V} {g : TG} {tt : TT} {te : TE} {vs : List Nat} {σ : St} {H1 : Hp} {D : Addr} {Qd : Hp → Prop} (Pv : Nat → Hp → Prop) (h0 : Pv 0 (upd H1 D (.lst []))) (hl : ∀ i H, i ≤ xs.length → Pv i H → SqT K H a xs)
    (hs : ∀ i x H, xs[i]? = some x → Pv i H → g x (wipe σ vs) H fun σ2 H2 => wipe σ2 vs = wipe σ vs ∧ tt σ2 H2 fun b H3 =>
      if b = true then te σ2 H3 fun y H4 => ∃ acc, H4 D = some (.lst acc) ∧ acc.length < sizeLine ∧ Pv (i + 1) (upd H4 D (.lst (acc ++ [y]))) else Pv (i + 1) H3) (hd : ∀ H, Pv xs.length H → Qd H) :
    ∃ W : Nat → Nat → Hp → Prop, (∃ m, W 0 m (upd H1 D (.lst []))) ∧ ∀ i m H, W i m H →
      ((Itt K a).stop i H ∧ Qd H) ∨ ((Itt K a).go i H ∧ ∃ Nx : Hp → Prop, (∀ H', Nx H' → ∃ m', m' < m ∧ W (i + 1) m' H') ∧ ∀ x H', (Itt K a).yld i H x H' → g x (wipe σ vs) H' fun σ2 H2 => wipe σ2 vs = wipe σ vs ∧ tt σ2 H2 fun b H3 =>
        if b = true then te σ2 H3 fun y H4 => ∃ acc, H4 D = some (.lst acc) ∧ acc.length < sizeLine ∧ Nx (upd H4 D (.lst (acc ++ [y]))) else Nx H3) := by
  refine ⟨fun i m H => m = xs.length - i ∧ i ≤ xs.length ∧ Pv i H, ⟨xs.length, by simp, Nat.zero_le _, h0⟩, ?_⟩
  rintro i m H ⟨rfl, hi, p⟩
  have q := hl i H hi p
  by_cases hlt : i < xs.length
  · refine .inr ⟨⟨xs, xs[i], q, by simp [hlt]⟩, Pv (i + 1), fun H' p' => ⟨xs.length - (i + 1), by omega, rfl, hlt, p'⟩, fun x H' y => ?_⟩
    obtain ⟨e, y⟩ := y
    subst e
    exact hs i x _ (y xs q) p
  · have e : i = xs.length := by omega
    subst e
    exact .inl ⟨⟨xs, q, Nat.le_refl _⟩, hd H p⟩
def blkC (N : List Str) (sc scope : Scope) (own : List (Str × Nat)) : Bool :=
  (match scope.kind with | .function => true | _ => false) && (scope.names.all fun y => decide (scope.names.lookup y.1 = some y.2)) && (own.all fun p => decide (N[p.2]? = some p.1)) &&
    (scope.names.all fun y => match y.2 with
      | .free => (match sc.names.lookup y.1 with | some .cell => true | some .free => true | _ => false)
      | .local => decide (y.1 ∈ own.map (·.1)) || decide (y.1 ∉ N)
      | .cell => decide (y.1 ∈ own.map (·.1)) || decide (y.1 ∉ N)
      | _ => true)
theorem blkOk_by {N : List Str} {sc scope : Scope} {own : List (Str × Nat)} (h : blkC N sc scope own = true) : BlkOk N sc scope own := by
  unfold blkC at h
  simp only [Bool.and_eq_true, List.all_eq_true, decide_eq_true_eq] at h
  obtain ⟨⟨⟨h1, h2⟩, h3⟩, h4⟩ := h
  refine ⟨?_, h2, h3, fun y hy e => ?_, fun y hy e => ?_⟩
  · split at h1
    · assumption
    · cases h1
  · have q := h4 y hy
    simp only [e] at q
    split at q <;> first | exact .inl (by assumption) | exact .inr (by assumption) | cases q
  · have q := h4 y hy
    rcases e with e | e <;> (simp only [e, Bool.or_eq_true, decide_eq_true_eq] at q; exact q)
end L2

namespace L2
open PySem PySem.Spec PyProof.Rows

theorem compTurn2_out (elt t0 i0 t1 i1 : Expr) (ifs0 ifs1 : List Expr) (scope : Scope) (pos : Pos) (it acc : Value) (env : Env) :
    compTurn (.ListComp elt [⟨t0, i0, ifs0, 0⟩, ⟨t1, i1, ifs1, 0⟩] scope pos) 0 it acc env = (do
      standAt i0.pos
      match ← pyNext it with
      | none => pure (.done .next)
      | some v =>
        letOwnedTupleGo t0 it v
        assign t0 env v
        let mut ok := true
        for c in ifs0 do
          if ok then ok ← isTrue c env (eval c env)
        if ok then
          let x ← eval i1 env
          standAt i1.pos
          let x ← foldedSetIterable i1 env x
          let _ ← runOwn (.compStart (.ListComp elt [⟨t0, i0, ifs0, 0⟩, ⟨t1, i1, ifs1, 0⟩] scope pos) 1 (← holding [x] (pyIter x)) acc env) env
        again (.compLoop (.ListComp elt [⟨t0, i0, ifs0, 0⟩, ⟨t1, i1, ifs1, 0⟩] scope pos) 0 it acc env)) := by rfl
theorem compTurn2_in (elt t0 i0 t1 i1 : Expr) (ifs0 ifs1 : List Expr) (scope : Scope) (pos : Pos) (it acc : Value) (env : Env) :
    compTurn (.ListComp elt [⟨t0, i0, ifs0, 0⟩, ⟨t1, i1, ifs1, 0⟩] scope pos) 1 it acc env = (do
      standAt i1.pos
      match ← pyNext it with
      | none => pure (.done .next)
      | some v =>
        letOwnedTupleGo t1 it v
        assign t1 env v
        let mut ok := true
        for c in ifs1 do
          if ok then ok ← isTrue c env (eval c env)
        if ok then
          (do let _ ← call (.builtin "list.append") [acc, ← eval elt env])
        again (.compLoop (.ListComp elt [⟨t0, i0, ifs0, 0⟩, ⟨t1, i1, ifs1, 0⟩] scope pos) 1 it acc env)) := by rfl

section
variable {prog : Program} {w : World} {A : Around} {R : Result → Shared → Prop} {s : Shared} {elt t0 i0 t1 i1 : Expr} {ifs0 ifs1 : List Expr} {scope : Scope} {pos : Pos} {it acc : Value} {env : Env}
/-- the loop of the first clause -/
theorem compLoop2_out (hs : ∀ x, foldedSetIterable i1 env x = pure x) (I : Nat → Shared → Prop)
    (turn : ∀ n s, I n s → wpAny (model prog w) A (pyNext it) (fun r s₁ => match r with
      | none => R (.ok .next) s₁
      | some v => wpAny (model prog w) A (letOwnedTupleGo t0 it v) (fun _ s₁' => wpAny (model prog w) A (assign t0 env v) (fun _ s₂ =>
          wpAny (model prog w) A (forIn ifs0 true fun c r => if r = true then do let ok ← isTrue c env (eval c env); pure (ForInStep.yield ok) else pure (ForInStep.yield r)) (fun ok s₃ =>
            if ok = true then wpAny (model prog w) A (eval i1 env) (fun x s₄ => wpAny (model prog w) A (pyIter x) (fun it1 s₅ =>
              codeAny (model prog w) A (.compStart (.ListComp elt [⟨t0, i0, ifs0, 0⟩, ⟨t1, i1, ifs1, 0⟩] scope pos) 1 it1 acc env) (fun r s' => match r with
                | .ok _ => ∃ m, m < n ∧ I m s'
                | .error _ => False) s₅) (notedBy (model prog w) A env fun e s' => R (.error e) s') s₄) (notedBy (model prog w) A env fun e s' => R (.error e) s') s₃
            else ∃ m, m < n ∧ I m s₃) (notedBy (model prog w) A env fun e s' => R (.error e) s') s₂) (notedBy (model prog w) A env fun e s' => R (.error e) s') s₁') (notedBy (model prog w) A env fun e s' => R (.error e) s') s₁) (notedBy (model prog w) A env fun e s' => R (.error e) s') s)
    (n : Nat) (h : I n s) :
    codeAny (model prog w) A (.compLoop (.ListComp elt [⟨t0, i0, ifs0, 0⟩, ⟨t1, i1, ifs1, 0⟩] scope pos) 0 it acc env) R s := by
  refine codeAny_loop rfl I (fun n s hI => ?_) n h
  show wpAny _ A ((compTurn (.ListComp elt [⟨t0, i0, ifs0, 0⟩, ⟨t1, i1, ifs1, 0⟩] scope pos) 0 it acc env).onRaise (fun x => do noteFrame x env; theTreesLotGoes x)) _ _ s
  refine wpAny_noted ?_
  rw [compTurn2_out]
  refine wpAny_bind (wpAny_standAt (wpAny_bind (wpAny_mono (turn n s hI) (fun r s₁ h₁ => ?_) fun _ _ h' => h')))
  cases r with
  | none => exact wpAny_pure h₁
  | some v =>
    refine wpAny_bind (wpAny_mono h₁ (fun _ s₁' h₁' => ?_) fun _ _ h' => h')
    refine wpAny_bind (wpAny_mono h₁' (fun _ s₂ h₂ => wpAny_bind (wpAny_mono h₂ (fun ok s₃ h₃ => ?_) fun _ _ h' => h')) fun _ _ h' => h')
    cases ok with
    | false => exact wpAny_pure ⟨rfl, h₃⟩
    | true =>
      refine wpAny_bind (wpAny_mono h₃ (fun x s₄ h₄ => ?_) fun _ _ h' => h')
      refine wpAny_bind (wpAny_standAt (wpAny_bind (wpAny_of_eq (hs x) (wpAny_bind (wpAny_holding (wpAny_mono h₄ (fun it1 s₅ h₅ => ?_) fun _ _ h' => h'))))))
      refine wpAny_bind (wpAny_runOwn ?_)
      rw [Around.mark_none]
      refine codeAny_mono h₅ fun r s' hr => ?_
      cases r with
      | ok f =>
        first
          | exact wpAny_pure ⟨rfl, hr⟩
          | exact wpAny_bind (wpAny_pure (wpAny_pure ⟨rfl, hr⟩))
      | error e => exact hr.elim
/-- the loop of the second -/
theorem compLoop2_in (I : Nat → Shared → Prop)
    (turn : ∀ n s, I n s → wpAny (model prog w) A (pyNext it) (fun r s₁ => match r with
      | none => R (.ok .next) s₁
      | some v => wpAny (model prog w) A (letOwnedTupleGo t1 it v) (fun _ s₁' => wpAny (model prog w) A (assign t1 env v) (fun _ s₂ =>
          wpAny (model prog w) A (forIn ifs1 true fun c r => if r = true then do let ok ← isTrue c env (eval c env); pure (ForInStep.yield ok) else pure (ForInStep.yield r)) (fun ok s₃ =>
            if ok = true then wpAny (model prog w) A (eval elt env) (fun x s₄ =>
              wpAny (model prog w) A (call (.builtin "list.append") [acc, x]) (fun _ s₅ => ∃ m, m < n ∧ I m s₅) (notedBy (model prog w) A env fun e s' => R (.error e) s') s₄) (notedBy (model prog w) A env fun e s' => R (.error e) s') s₃
            else ∃ m, m < n ∧ I m s₃) (notedBy (model prog w) A env fun e s' => R (.error e) s') s₂) (notedBy (model prog w) A env fun e s' => R (.error e) s') s₁') (notedBy (model prog w) A env fun e s' => R (.error e) s') s₁) (notedBy (model prog w) A env fun e s' => R (.error e) s') s)
    (n : Nat) (h : I n s) :
    codeAny (model prog w) A (.compLoop (.ListComp elt [⟨t0, i0, ifs0, 0⟩, ⟨t1, i1, ifs1, 0⟩] scope pos) 1 it acc env) R s := by
  refine codeAny_loop rfl I (fun n s hI => ?_) n h
  show wpAny _ A ((compTurn (.ListComp elt [⟨t0, i0, ifs0, 0⟩, ⟨t1, i1, ifs1, 0⟩] scope pos) 1 it acc env).onRaise (fun x => do noteFrame x env; theTreesLotGoes x)) _ _ s
  refine wpAny_noted ?_
  rw [compTurn2_in]
  refine wpAny_bind (wpAny_standAt (wpAny_bind (wpAny_mono (turn n s hI) (fun r s₁ h₁ => ?_) fun _ _ h' => h')))
  cases r with
  | none => exact wpAny_pure h₁
  | some v =>
    refine wpAny_bind (wpAny_mono h₁ (fun _ s₁' h₁' => ?_) fun _ _ h' => h')
    refine wpAny_bind (wpAny_mono h₁' (fun _ s₂ h₂ => wpAny_bind (wpAny_mono h₂ (fun ok s₃ h₃ => ?_) fun _ _ h' => h')) fun _ _ h' => h')
    cases ok with
    | false => exact wpAny_pure ⟨rfl, h₃⟩
    | true =>
      exact wpAny_bind (wpAny_bind (wpAny_mono h₃ (fun x s₄ h₄ => wpAny_bind (wpAny_mono h₄ (fun _ s₅ h₅ => wpAny_pure (wpAny_pure ⟨rfl, h₅⟩)) fun _ _ h' => h')) fun _ _ h' => h'))
/-- the second clause's start -/
theorem compStart1_ok (h0 : codeAny (model prog w) A (.compLoop (.ListComp elt [⟨t0, i0, ifs0, 0⟩, ⟨t1, i1, ifs1, 0⟩] scope pos) 1 it acc env) R s)
    (h : wpAny (model prog w) A (pyIter it) (fun it' s' => codeAny (model prog w) A (.compLoop (.ListComp elt [⟨t0, i0, ifs0, 0⟩, ⟨t1, i1, ifs1, 0⟩] scope pos) 1 it' acc env) R s')
      (notedBy (model prog w) A env fun x s' => R (.error x) s') s) :
    codeAny (model prog w) A (.compStart (.ListComp elt [⟨t0, i0, ifs0, 0⟩, ⟨t1, i1, ifs1, 0⟩] scope pos) 1 it acc env) R s := by
  refine codeAny_of_tree ?_
  show wpAny _ _ ((compStart (.ListComp elt [⟨t0, i0, ifs0, 0⟩, ⟨t1, i1, ifs1, 0⟩] scope pos) 1 it acc env).onRaise (fun x => do noteFrame x env; standAt theWindowsPlace)) _ _ s
  refine wpAny_notedAt ?_
  unfold compStart
  show wpAny _ _ (ask >>= _) _ _ s
  refine wpAny_bind (wpAny_askSetting (wpAny_ite ?_))
  split
  · first
      | exact wpAny_bind (wpAny_pure (wpAny_pure (And.intro rfl h0)))
      | exact wpAny_pure (And.intro rfl h0)
  · first
      | exact wpAny_bind (wpAny_rule (wpAny_bind (wpAny_standAt (wpAny_bind (wpAny_mono h (fun it' s' h' => wpAny_pure (And.intro rfl h')) fun _ _ x => x)))))
      | (refine wpAny_bind (wpAny_rule ?_); show wpAny _ _ (standAt i1.pos >>= _) _ _ s; exact wpAny_bind (wpAny_standAt (wpAny_bind (wpAny_mono h (fun it' s' h' => wpAny_pure (And.intro rfl h')) fun _ _ x => x))))
end

theorem wipe_out {σ : St} {i : Nat} : ∀ {vs : List Nat}, i ∉ vs → (wipe σ vs)[i]? = σ[i]?
  | [], _ => rfl
  | v :: vs, h => by
    have h1 : v ≠ i := fun e => h (by rw [e]; exact List.mem_cons_self)
    have h2 : i ∉ vs := fun m => h (List.mem_cons_of_mem _ m)
    unfold wipe
    rw [List.getElem?_set_ne h1]
    exact wipe_out h2
section
variable {X : Cx}
/-- [elt for tg in iter if .. for tg1 in iter1 if ..]: behind the first clause's store and tests the second source's own loop, from which Nx is reached. vs: the block's names; vs1: those of the second target -/
def tLc2 (wi : TI) (g : TG) (tt : TT) (wi1 : TI) (g1 : TG) (tt1 : TT) (te : TE) (vs vs1 : List Nat) : TE := fun σ H Q => wi σ H fun J H1 => ∀ D, H1 D = none → ∃ W : Nat → Nat → Hp → Prop, (∃ m, W 0 m (upd H1 D (.lst []))) ∧ ∀ i m H, W i m H →
  (J.stop i H ∧ Q (.ref D) H) ∨ (J.go i H ∧ ∃ Nx : Hp → Prop, (∀ H', Nx H' → ∃ m', m' < m ∧ W (i + 1) m' H') ∧ ∀ x H', J.yld i H x H' → g x (wipe σ vs) H' fun σ2 H2 => wipe σ2 vs = wipe σ vs ∧ tt σ2 H2 fun b H3 =>
    if b = true then wi1 σ2 H3 fun J1 H4 => ∃ W1 : Nat → Nat → Hp → Prop, (∃ m, W1 0 m H4) ∧ ∀ j k H, W1 j k H →
      (J1.stop j H ∧ Nx H) ∨ (J1.go j H ∧ ∃ Nx1 : Hp → Prop, (∀ H', Nx1 H' → ∃ k', k' < k ∧ W1 (j + 1) k' H') ∧ ∀ x H', J1.yld j H x H' → g1 x (wipe σ2 vs1) H' fun σ3 H5 => wipe σ3 vs1 = wipe σ2 vs1 ∧ tt1 σ3 H5 fun b H6 =>
        if b = true then te σ3 H6 fun y H7 => ∃ acc, H7 D = some (.lst acc) ∧ acc.length < sizeLine ∧ Nx1 (upd H7 D (.lst (acc ++ [y]))) else Nx1 H6)
    else Nx H3)
theorem lc2_core {pins : List (Addr × Obj)} {s : Shared} {σ : St} {H : Hp} {Q : VK} {elt tg iter tg1 iter1 : Expr} {ifs ifs1 : List Expr} {scope : Scope} {own : List (Str × Nat)} {vs1 : List Nat} {pos pos' : Pos} {wi wi1 : TI} {g g1 : TG} {tt tt1 : TT} {te : TE} {use : Option (Value → Sem Unit)} {Qf : Value → Shared → Prop}
    (hc : X.calm = true) (hN : X.N.Nodup) (I : Inv X pins σ H s) (hi : PI X tg iter wi) (ok : BlkOk X.N X.env.scope scope own) (hv : ∀ i ∈ vs1, i ∈ own.map (·.2))
    (hg : ∀ (s : Shared) (H : Hp) (C : Addr) (cl : List (Str × Addr)) (fp : List Addr), PG (X.blk s H scope (compEnvC scope cl C X.env) fp) tg g) (ht : ∀ (s : Shared) (H : Hp) (C : Addr) (cl : List (Str × Addr)) (fp : List Addr), PTs (X.blk s H scope (compEnvC scope cl C X.env) fp) ifs tt)
    (he : ∀ (s : Shared) (H : Hp) (C : Addr) (cl : List (Str × Addr)) (fp : List Addr), PE (X.blk s H scope (compEnvC scope cl C X.env) fp) elt te) (hs : ∀ x, foldedSetIterable iter X.env x = pure x)
    (hi1 : ∀ (s : Shared) (H : Hp) (C : Addr) (cl : List (Str × Addr)) (fp : List Addr), PI (X.blk s H scope (compEnvC scope cl C X.env) fp) tg1 iter1 wi1)
    (hg1 : ∀ (s : Shared) (H : Hp) (C : Addr) (cl : List (Str × Addr)) (fp : List Addr), PG (X.blk s H scope (compEnvC scope cl C X.env) fp) tg1 g1)
    (ht1 : ∀ (s : Shared) (H : Hp) (C : Addr) (cl : List (Str × Addr)) (fp : List Addr), PTs (X.blk s H scope (compEnvC scope cl C X.env) fp) ifs1 tt1)
    (hs1 : ∀ env x, foldedSetIterable iter1 env x = pure x)
    (h : tLc2 wi g tt wi1 g1 tt1 te (own.map (·.2)) vs1 σ H Q)
    (hRR : ∀ D C s' m H', Inv X pins σ H' s' → Q (.ref D) H' → s'.heap.Ns C m → FpOk X pins H' C → compPost (model X.prog X.w) X.A X.xe use Qf (.ref D) C (.ok .next) s') :
    wpAny (model X.prog X.w) X.A (comprehension (.ListComp elt [⟨tg, iter, ifs, 0⟩, ⟨tg1, iter1, ifs1, 0⟩] scope pos) scope X.env pos' (newList []) false (eval iter X.env) use) Qf X.xe s := by
  have hfree : ∀ y ∈ scope.names, y.2 = .free → ∃ c, X.env.cells.lookup y.1 = some c := fun y hy e => by
    rcases ok.free y hy e with k | k
    · exact I.ok.has _ (.inl k)
    · exact I.ok.has _ (.inr k)
  refine wpAny_comprehension_free (use := use) rfl hs (closure_ok hfree) ok.kind (fun y hy e => by rw [ok.uniq y hy, e])
    (thn (hi pins s σ H _ I h) fun xv s1 hx => thn hx fun itv s2 h2 => ?_)
  obtain ⟨it, fp, tn, J, H2, e, I2, T, st2, f2, q⟩ := h2
  subst e
  refine wpAny_newObj_type (newEnv_comp ?_) (by show 0 ≤ sizeLine; decide)
  generalize hD : s2.heap.objs.size = D
  have hDn : H2 D = none := I2.hok.fresh (Nat.le_of_eq hD)
  obtain ⟨W, ⟨m0, w0⟩, turn⟩ := q D hDn
  -- the new list
  generalize hs3 : ({ s2 with heap := s2.heap.push { cls := .type "list", data := .seq ([] : List Value).toArray } } : Shared) = s3
  have I3 : Inv X pins σ (upd H2 D (.lst [])) s3 := by
    rw [← hs3]
    refine I2.laid (t' := s2.toks) (fun b o e => Heap.get?_push_of_some _ e) (Nat.le_of_eq hD) ⟨Nat.zero_le _, [], 0, .nil, ?_⟩
    rw [← hD]
    exact Heap.get?_push_size _ rfl
  have h3 : s3.heap = s2.heap.push { cls := .type "list", data := .seq ([] : List Value).toArray } := by rw [← hs3]
  have sz : ∀ b ∈ fp, b < s2.heap.objs.size := fun b hb => by
    obtain ⟨o, e, _⟩ := T.obj _ _ st2 b hb
    exact Heap.lt_size e
  have f3 : ∀ b ∈ fp, FpOk X pins (upd H2 D (.lst [])) b ∧ b < s3.heap.objs.size := fun b hb => by
    have hlt := sz b hb
    refine ⟨⟨?_, (f2 b hb).2⟩, by rw [h3, Heap.size_push]; exact Nat.lt_succ_of_lt hlt⟩
    rw [upd_ne (by rw [← hD]; exact Nat.ne_of_lt hlt)]
    exact (f2 b hb).1
  have st3 : tn 0 s3.heap := T.keep _ _ _ st2 fun b _ o e => by rw [h3]; exact Heap.get?_push_of_some _ e
  have I4 := block_start I3 ok hN f3
  have pg := hg s3 (upd H2 D (.lst [])) s3.heap.objs.size (cellsFrom (s3.heap.objs.size + 1) scope.names (cloFrom X.env.cells scope.names [])) fp
  have pt := ht s3 (upd H2 D (.lst [])) s3.heap.objs.size (cellsFrom (s3.heap.objs.size + 1) scope.names (cloFrom X.env.cells scope.names [])) fp
  have pe := he s3 (upd H2 D (.lst [])) s3.heap.objs.size (cellsFrom (s3.heap.objs.size + 1) scope.names (cloFrom X.env.cells scope.names [])) fp
  have pi1 := hi1 s3 (upd H2 D (.lst [])) s3.heap.objs.size (cellsFrom (s3.heap.objs.size + 1) scope.names (cloFrom X.env.cells scope.names [])) fp
  have pg1 := hg1 s3 (upd H2 D (.lst [])) s3.heap.objs.size (cellsFrom (s3.heap.objs.size + 1) scope.names (cloFrom X.env.cells scope.names [])) fp
  have pt1 := ht1 s3 (upd H2 D (.lst [])) s3.heap.objs.size (cellsFrom (s3.heap.objs.size + 1) scope.names (cloFrom X.env.cells scope.names [])) fp
  show codeAny _ _ (.compStart (.ListComp elt [⟨tg, iter, ifs, 0⟩, ⟨tg1, iter1, ifs1, 0⟩] scope pos) 0 (.ref it) (.ref D) (compEnvC scope (cellsFrom (s3.heap.objs.size + 1) scope.names (cloFrom X.env.cells scope.names [])) s3.heap.objs.size X.env)) (compPost (model X.prog X.w) X.A X.xe use Qf (.ref D) s3.heap.objs.size) { s3 with heap := pushCells (s3.heap.push { cls := .type "dict", data := .dict #[] }) scope.names }
  have nfp : ∀ b ∈ fp, (upd H2 D (.lst [])) b = none := fun b hb => (f3 b hb).1.1
  generalize hce : compEnvC scope (cellsFrom (s3.heap.objs.size + 1) scope.names (cloFrom X.env.cells scope.names [])) s3.heap.objs.size X.env = ce at I4 pg pt pe pi1 pg1 pt1 ⊢
  have cL : ce.locals = s3.heap.objs.size := by subst hce; rfl
  generalize hH3 : upd H2 D (.lst []) = H3 at I3 I4 pg pt pe pi1 pg1 pt1 w0 nfp f3
  generalize hs4 : ({ s3 with heap := pushCells (s3.heap.push { cls := .type "dict", data := .dict #[] }) scope.names } : Shared) = s4 at I4 ⊢
  have st4 : tn 0 s4.heap := T.keep _ _ _ st3 fun b _ o e => by rw [← hs4]; exact pushCells_keeps _ _ _ _ (Heap.get?_push_of_some _ e)
  have stat : ∀ {σ' : St} {H' : Hp} {s' : Shared}, Inv (X.blk s3 H3 scope ce fp) [] σ' H' s' → (∀ b ∈ fp, H' b = none) → ∀ b ∈ fp, FpOk (X.blk s3 H3 scope ce fp) [] H' b := fun {σ' H' s'} I' hn b hb =>
    ⟨hn b hb, (I'.ok.exf b hb).1, I'.ok.exfs b hb, .inl hb, fun x c e => (I'.ok.exf b hb).2 x c e, fun p hp => absurd (show p ∈ ([] : List (Addr × Obj)) ++ [] from hp) (by simp)⟩
  have loop : codeAny (model X.prog X.w) X.A (.compLoop (.ListComp elt [⟨tg, iter, ifs, 0⟩, ⟨tg1, iter1, ifs1, 0⟩] scope pos) 0 (.ref it) (.ref D) ce) (compPost (model X.prog X.w) X.A X.xe use Qf (.ref D) s3.heap.objs.size) s4 := by
    refine compLoop2_out (hs1 ce) (fun n s' => ∃ i H', Inv (X.blk s3 H3 scope ce fp) [] (wipe σ (own.map (·.2))) H' s' ∧ tn i s'.heap ∧ (∀ b ∈ fp, H' b = none) ∧ W i n H') ?_ m0 ⟨0, H3, I4, st4, nfp, w0⟩
    rintro n s5 ⟨i, H5, I5, st5, n5, w5⟩
    rcases turn i n H5 w5 with ⟨stop, qq⟩ | ⟨go, Nx, hNx, step⟩
    · have td := T.done (X.blk s3 H3 scope ce fp) rfl rfl rfl hc i [] s5 _ H5 (fun _ _ => False) I5 (stat I5 n5) st5 stop
      refine thnF td fun r s6 ⟨hr, I6⟩ => ?_
      subst hr
      -- back in the def's context
      have I7 : Inv X pins σ H5 s6 := I3.call' (ch := fp) I6.os I6.base I6.hok I6.bare fun b hb => ⟨(f3 b hb).1.2.2.2.1, (f3 b hb).1.2.1, (f3 b hb).1.2.2.2.2.1, (f3 b hb).1.2.2.2.2.2⟩
      have nC : H5 s3.heap.objs.size = none := by
        have z : H5 ce.locals = none := I6.free
        rw [cL] at z
        exact z
      obtain ⟨m, hn, _⟩ := I6.loc
      have hn : s6.heap.Ns ce.locals m := hn
      rw [cL] at hn
      exact hRR D s3.heap.objs.size s6 m H5 I7 qq hn (I3.fpOk (Nat.le_refl _) nC)
    · have ti := T.item (X.blk s3 H3 scope ce fp) rfl rfl rfl hc i [] s5 _ H5 (fun _ _ => False) I5 (stat I5 n5) st5 go
      refine thnF ti fun r s6 ⟨u, hr, h6⟩ => ?_
      subst hr
      refine thnF h6 fun _ s7 ⟨x, H7, I7, r7, y7, st7, n7⟩ => ?_
      have I7' := I7.pinned (stat I7 n7) (T.obj _ _ st7)
      refine thnF (pg _ s7 _ H7 x u _ I7' r7 (step x H7 y7)) fun _ s8 ⟨σ8, H8, I8, hw8, q8⟩ => ?_
      refine thnF (pt _ s8 σ8 H8 _ I8 q8) fun b s9 ⟨H9, I9, q9⟩ => ?_
      -- the turn's end, from any slots that know what the block knew at its start
      have fin : ∀ {σ9 : St} {s' : Shared} {H' : Hp}, Inv (X.blk s3 H3 scope ce fp) ([] ++ pinsAt fp s7.heap) σ9 H' s' → (wipe σ (own.map (·.2))).length = σ9.length → (∀ (j : Nat) v, (wipe σ (own.map (·.2)))[j]? = some (some v) → σ9[j]? = some (some v)) → Nx H' →
          ∃ m, m < n ∧ ∃ i H', Inv (X.blk s3 H3 scope ce fp) [] (wipe σ (own.map (·.2))) H' s' ∧ tn i s'.heap ∧ (∀ b ∈ fp, H' b = none) ∧ W i m H' := fun {σ9 s' H'} I' hl hk nx => by
        obtain ⟨m', hm, w'⟩ := hNx H' nx
        have pin' : ∀ b ∈ fp, ∀ o, s7.heap.get? b = some o → s'.heap.get? b = some o ∧ H' b = none := fun b hb o e =>
          let z := I'.pin (b, o) (List.mem_append_right _ (List.mem_append_right _ (mem_pinsAt hb e)))
          ⟨z.1, z.2.1⟩
        refine ⟨m', hm, i + 1, H', (I'.unpinned (pins := [])).weak hl hk, T.keep _ _ _ st7 fun b hb o e => (pin' b hb o e).1, fun b hb => ?_, w'⟩
        obtain ⟨o, e, _⟩ := T.obj _ _ st7 b hb
        exact (pin' b hb o e).2
      have hl8 : (wipe σ (own.map (·.2))).length = σ8.length := by rw [← hw8, wipe_length]
      have hk8 : ∀ (j : Nat) v, (wipe σ (own.map (·.2)))[j]? = some (some v) → σ8[j]? = some (some v) := fun j v e => by
        rw [← hw8] at e
        exact (wipe_some e).1
      have hk9 : ∀ (j : Nat) v, (wipe σ (own.map (·.2)))[j]? = some (some v) → (wipe σ8 vs1)[j]? = some (some v) := fun j v e => by
        rw [← hw8] at e
        obtain ⟨e1, e2⟩ := wipe_some e
        rw [wipe_out fun z => e2 (hv j z)]
        exact e1
      cases b with
      | false =>
        simp only [Bool.false_eq_true, if_false] at q9 ⊢
        exact fin I9 hl8 hk8 q9
      | true =>
        simp only [if_true] at q9 ⊢
        refine thnF (pi1 _ s9 σ8 H9 _ I9 q9) fun xv s10 hx => thnF hx fun itv s11 h11 => ?_
        obtain ⟨it1, fp1, tn1, J1, H11, e1, I11, T1, st11, f11, W1, ⟨m1, w1⟩, turn1⟩ := h11
        subst e1
        -- the inner loop
        have stat1 : ∀ {H' : Hp}, (∀ b ∈ fp1, H' b = none) → ∀ b ∈ fp1, FpOk (X.blk s3 H3 scope ce fp) ([] ++ pinsAt fp s7.heap) H' b := fun hn b hb => ⟨hn b hb, (f11 b hb).2⟩
        have loop1 : codeAny (model X.prog X.w) X.A (.compLoop (.ListComp elt [⟨tg, iter, ifs, 0⟩, ⟨tg1, iter1, ifs1, 0⟩] scope pos) 1 (.ref it1) (.ref D) ce)
            (fun r s' => match r with
              | .ok _ => ∃ m, m < n ∧ ∃ i H', Inv (X.blk s3 H3 scope ce fp) [] (wipe σ (own.map (·.2))) H' s' ∧ tn i s'.heap ∧ (∀ b ∈ fp, H' b = none) ∧ W i m H'
              | .error _ => False) s11 := by
          refine compLoop2_in (fun k s' => ∃ j H', Inv (X.blk s3 H3 scope ce fp) ([] ++ pinsAt fp s7.heap) (wipe σ8 vs1) H' s' ∧ tn1 j s'.heap ∧ (∀ b ∈ fp1, H' b = none) ∧ W1 j k H') ?_ m1 ⟨0, H11, I11.weak (wipe_length _ _) (fun j v e => (wipe_some e).1), st11, fun b hb => (f11 b hb).1, w1⟩
          rintro k s12 ⟨j, H12, I12, st12, n12, w12⟩
          rcases turn1 j k H12 w12 with ⟨stop1, nx1⟩ | ⟨go1, Nx1, hNx1, step1⟩
          · refine thnF (T1.done (X.blk s3 H3 scope ce fp) rfl rfl rfl hc j _ s12 (wipe σ8 vs1) H12 (fun _ _ => False) I12 (stat1 n12) st12 stop1) fun r s13 ⟨hr, I13⟩ => ?_
            subst hr
            exact fin I13 (hl8.trans (wipe_length σ8 vs1).symm) hk9 nx1
          · refine thnF (T1.item (X.blk s3 H3 scope ce fp) rfl rfl rfl hc j _ s12 (wipe σ8 vs1) H12 (fun _ _ => False) I12 (stat1 n12) st12 go1) fun r s13 ⟨u1, hr, h13⟩ => ?_
            subst hr
            refine thnF h13 fun _ s14 ⟨x1, H14, I14, r14, y14, st14, n14⟩ => ?_
            have I14' := I14.pinned (stat1 n14) (T1.obj _ _ st14)
            refine thnF (pg1 _ s14 (wipe σ8 vs1) H14 x1 u1 _ I14' r14 (step1 x1 H14 y14)) fun _ s15 ⟨σ15, H15, I15, hw15, q15⟩ => ?_
            refine thnF (pt1 _ s15 σ15 H15 _ I15 q15) fun b1 s16 ⟨H16, I16, q16⟩ => ?_
            have fin1 : ∀ {s' : Shared} {H' : Hp}, Inv (X.blk s3 H3 scope ce fp) (([] ++ pinsAt fp s7.heap) ++ pinsAt fp1 s14.heap) σ15 H' s' → Nx1 H' → ∃ m, m < k ∧ ∃ j H', Inv (X.blk s3 H3 scope ce fp) ([] ++ pinsAt fp s7.heap) (wipe σ8 vs1) H' s' ∧ tn1 j s'.heap ∧ (∀ b ∈ fp1, H' b = none) ∧ W1 j m H' := fun {s' H'} I' nx => by
              obtain ⟨m', hm, w'⟩ := hNx1 H' nx
              have pin' : ∀ b ∈ fp1, ∀ o, s14.heap.get? b = some o → s'.heap.get? b = some o ∧ H' b = none := fun b hb o e =>
                let z := I'.pin (b, o) (List.mem_append_right _ (List.mem_append_right _ (mem_pinsAt hb e)))
                ⟨z.1, z.2.1⟩
              refine ⟨m', hm, j + 1, H', I'.unpinned.weak (by rw [← hw15, wipe_length]) (fun j v e => by rw [← hw15] at e; exact (wipe_some e).1), T1.keep _ _ _ st14 fun b hb o e => (pin' b hb o e).1, fun b hb => ?_, w'⟩
              obtain ⟨o, e, _⟩ := T1.obj _ _ st14 b hb
              exact (pin' b hb o e).2
            cases b1 with
            | false =>
              simp only [Bool.false_eq_true, if_false] at q16 ⊢
              exact fin1 I16 q16
            | true =>
              simp only [if_true] at q16 ⊢
              refine thnF (pe _ s16 σ15 H16 _ I16 q16) fun z s17 ⟨yv, H17, I17, r17, acc, hD17, hz17, nx⟩ => ?_
              exact app_ok (X := X.blk s3 H3 scope ce fp) I17 hD17 hz17 r17 fun s18 I18 => fin1 I18 nx
        exact compStart1_ok loop1 (T1.self X.A 0 _ _ _ st11 loop1)
  exact codeAny_compStart_list loop (T.self X.A 0 _ _ _ st4 loop)
/-- as a value -/
theorem pe_lc2 {elt tg iter tg1 iter1 : Expr} {ifs ifs1 : List Expr} {scope : Scope} {own : List (Str × Nat)} {vs1 : List Nat} {pos : Pos} {wi wi1 : TI} {g g1 : TG} {tt tt1 : TT} {te : TE} (hc : X.calm = true) (hN : X.N.Nodup) (hi : PI X tg iter wi) (ok : BlkOk X.N X.env.scope scope own) (hv : ∀ i ∈ vs1, i ∈ own.map (·.2))
    (hg : ∀ (s : Shared) (H : Hp) (C : Addr) (cl : List (Str × Addr)) (fp : List Addr), PG (X.blk s H scope (compEnvC scope cl C X.env) fp) tg g) (ht : ∀ (s : Shared) (H : Hp) (C : Addr) (cl : List (Str × Addr)) (fp : List Addr), PTs (X.blk s H scope (compEnvC scope cl C X.env) fp) ifs tt)
    (hi1 : ∀ (s : Shared) (H : Hp) (C : Addr) (cl : List (Str × Addr)) (fp : List Addr), PI (X.blk s H scope (compEnvC scope cl C X.env) fp) tg1 iter1 wi1)
    (hg1 : ∀ (s : Shared) (H : Hp) (C : Addr) (cl : List (Str × Addr)) (fp : List Addr), PG (X.blk s H scope (compEnvC scope cl C X.env) fp) tg1 g1) (ht1 : ∀ (s : Shared) (H : Hp) (C : Addr) (cl : List (Str × Addr)) (fp : List Addr), PTs (X.blk s H scope (compEnvC scope cl C X.env) fp) ifs1 tt1)
    (he : ∀ (s : Shared) (H : Hp) (C : Addr) (cl : List (Str × Addr)) (fp : List Addr), PE (X.blk s H scope (compEnvC scope cl C X.env) fp) elt te) (hs : ∀ x, foldedSetIterable iter X.env x = pure x := by intro _; rfl) (hs1 : ∀ env x, foldedSetIterable iter1 env x = pure x := by intro _ _; rfl) :
    PE X (.ListComp elt [⟨tg, iter, ifs, 0⟩, ⟨tg1, iter1, ifs1, 0⟩] scope pos) (tLc2 wi g tt wi1 g1 tt1 te (own.map (·.2)) vs1) := by
  intro pins s σ H Q I h
  rw [eval_ListComp]
  refine lc2_core hc hN I hi ok hv hg ht he hs hi1 hg1 ht1 hs1 h fun D C s' m H' I' q hn f => ⟨m, hn, fun h'' sb => ?_⟩
  obtain ⟨f0, f1, f2, f3, f4, f5⟩ := f
  exact ⟨.ref D, H', I'.turned (t' := s'.toks) (fun b o hb e => (sb.2 b hb).trans e) f0 f1 f3 f4 f5, rfl, q⟩
theorem ps_setLc2 {i : Nat} {y : Str} {py : Pos} {elt tg iter tg1 iter1 : Expr} {ifs ifs1 : List Expr} {scope : Scope} {own : List (Str × Nat)} {vs1 : List Nat} {pos spos : Pos} {wi wi1 : TI} {g g1 : TG} {tt tt1 : TT} {te : TE} (hc : X.calm = true) (hN : X.N.Nodup) (hy : X.N[i]? = some y) (hyl : X.env.scope.names.lookup y = some .local)
    (hsw : swapsWith (.ListComp elt [⟨tg, iter, ifs, 0⟩, ⟨tg1, iter1, ifs1, 0⟩] scope pos) (some (.Name y py)) spos.line X.env = pure true) (hi : PI X tg iter wi) (ok : BlkOk X.N X.env.scope scope own) (hv : ∀ i ∈ vs1, i ∈ own.map (·.2))
    (hg : ∀ (s : Shared) (H : Hp) (C : Addr) (cl : List (Str × Addr)) (fp : List Addr), PG (X.blk s H scope (compEnvC scope cl C X.env) fp) tg g) (ht : ∀ (s : Shared) (H : Hp) (C : Addr) (cl : List (Str × Addr)) (fp : List Addr), PTs (X.blk s H scope (compEnvC scope cl C X.env) fp) ifs tt)
    (hi1 : ∀ (s : Shared) (H : Hp) (C : Addr) (cl : List (Str × Addr)) (fp : List Addr), PI (X.blk s H scope (compEnvC scope cl C X.env) fp) tg1 iter1 wi1)
    (hg1 : ∀ (s : Shared) (H : Hp) (C : Addr) (cl : List (Str × Addr)) (fp : List Addr), PG (X.blk s H scope (compEnvC scope cl C X.env) fp) tg1 g1) (ht1 : ∀ (s : Shared) (H : Hp) (C : Addr) (cl : List (Str × Addr)) (fp : List Addr), PTs (X.blk s H scope (compEnvC scope cl C X.env) fp) ifs1 tt1)
    (he : ∀ (s : Shared) (H : Hp) (C : Addr) (cl : List (Str × Addr)) (fp : List Addr), PE (X.blk s H scope (compEnvC scope cl C X.env) fp) elt te) (hs : ∀ x, foldedSetIterable iter X.env x = pure x := by intro _; rfl) (hs1 : ∀ env x, foldedSetIterable iter1 env x = pure x := by intro _ _; rfl) :
    PS X (.Assign [.Name y py] (.ListComp elt [⟨tg, iter, ifs, 0⟩, ⟨tg1, iter1, ifs1, 0⟩] scope pos) spos) (tAsg (tLc2 wi g tt wi1 g1 tt1 te (own.map (·.2)) vs1) (gName i)) := by
  intro pins s σ H D I h
  rw [exec_Assign_Name_used _ _ _ _ hsw]
  refine wpAny_bind (wpAny_standAt (wpAny_bind ?_))
  show wpAny _ X.A (do let _ ← comprehension (.ListComp elt [⟨tg, iter, ifs, 0⟩, ⟨tg1, iter1, ifs1, 0⟩] scope pos) scope X.env (firstIterPos [⟨tg, iter, ifs, 0⟩, ⟨tg1, iter1, ifs1, 0⟩] pos) (newList []) false (eval iter X.env) (some (assign (.Name y py) X.env))) _ _ s
  have h : tLc2 wi g tt wi1 g1 tt1 te (own.map (·.2)) vs1 σ H (fun x H1 => gName i x σ H1 D.nx) := h
  refine wpAny_bind (thn (lc2_core (Qf := fun _ s' => SP X pins D .next s') hc hN I hi ok hv hg ht he hs hi1 hg1 ht1 hs1 h fun L C s' m H' I' q hn f => ?_) fun _ s' hq => wpAny_pure (wpAny_pure hq))
  show wpAny _ _ (assign (.Name y py) X.env (.ref L)) _ _ _
  refine wpAny_assign_Name (store_ok2 (v := V.ref L) I' hN hy (.inl hyl) rfl (fun s2 I2 ⟨a, sb, ha⟩ => ?_) (.inr hyl))
  obtain ⟨f0, f1, f2, f3, f4, f5⟩ := f
  have haC : C ≠ a := by
    rcases ha with z | z
    · rw [z]; exact f1
    · exact fun e => f4 y a z e.symm
  refine ⟨m, hn.sameBut sb haC, fun h3 sb3 => ?_⟩
  exact ⟨_, H', I2.turned (t' := s2.toks) (fun b o hb e => (sb3.2 b hb).trans e) f0 f1 f3 f4 f5, q⟩
end
end L2

namespace L2
open PySem PySem.Spec PyProof.Rows

/-! ### lists of pairs as tables -/
section
variable {κ : Type} [DecidableEq κ]
def valV (kvs : List (κ × V)) (k : κ) : Option V := (kvs.find? fun kv => decide (kv.1 = k)).map (·.2)
/-- in its place, or at the end -/
def putK (kvs : List (κ × V)) (k : κ) (v : V) : List (κ × V) :=
  if (kvs.any fun kv => decide (kv.1 = k)) = true then kvs.map (fun kv => if kv.1 = k then (kv.1, v) else kv) else kvs ++ [(k, v)]
def dropK (kvs : List (κ × V)) (k : κ) : List (κ × V) := kvs.filter fun kv => decide (kv.1 ≠ k)

theorem valV_nil {k : κ} : valV ([] : List (κ × V)) k = none := rfl
theorem valV_pos {p : κ × V} {r : List (κ × V)} {k : κ} (e : p.1 = k) : valV (p :: r) k = some p.2 := by simp [valV, List.find?_cons, e]
theorem valV_neg {p : κ × V} {r : List (κ × V)} {k : κ} (e : ¬ p.1 = k) : valV (p :: r) k = valV r k := by simp [valV, List.find?_cons, e]
theorem valV_any (k : κ) : ∀ kvs : List (κ × V), (kvs.any fun kv => decide (kv.1 = k)) = (valV kvs k).isSome
  | [] => rfl
  | p :: r => by
    rw [List.any_cons]
    by_cases e : p.1 = k
    · simp only [valV_pos e, decide_eq_true e, Bool.true_or, Option.isSome_some]
    · rw [valV_neg e, decide_eq_false e, Bool.false_or]; exact valV_any k r
theorem valV_map (k j : κ) (y : V) : ∀ kvs : List (κ × V), valV (kvs.map fun kv => if kv.1 = k then (kv.1, y) else kv) j = (valV kvs j).map fun x => if j = k then y else x
  | [] => rfl
  | p :: r => by
    have ih := valV_map k j y r
    rw [List.map_cons]
    by_cases h : p.1 = k
    · rw [if_pos h]
      by_cases e : p.1 = j
      · rw [valV_pos (p := (p.1, y)) e, valV_pos e, Option.map_some, if_pos (e.symm.trans h)]
      · rw [valV_neg (p := (p.1, y)) e, valV_neg e, ih]
    · rw [if_neg h]
      by_cases e : p.1 = j
      · rw [valV_pos (p := p) e, valV_pos e, Option.map_some, if_neg (fun z => h (e.trans z))]
      · rw [valV_neg (p := p) e, valV_neg e, ih]
theorem valV_snoc (k j : κ) (y : V) : ∀ kvs : List (κ × V), valV kvs k = none → valV (kvs ++ [(k, y)]) j = if j = k then some y else valV kvs j
  | [], _ => by
    by_cases e : k = j
    · rw [if_pos e.symm]; exact valV_pos (p := (k, y)) e
    · rw [if_neg (fun z => e z.symm)]; exact valV_neg (p := (k, y)) e
  | p :: r, hn => by
    rw [List.cons_append]
    have hk : ¬ p.1 = k := fun z => by rw [valV_pos z] at hn; cases hn
    rw [valV_neg hk] at hn
    have ih := valV_snoc k j y r hn
    by_cases e : p.1 = j
    · rw [valV_pos e, valV_pos e, if_neg (fun z => hk (e.trans z))]
    · rw [valV_neg e, valV_neg e, ih]
theorem valV_put (kvs : List (κ × V)) (k j : κ) (y : V) : valV (putK kvs k y) j = if j = k then some y else valV kvs j := by
  unfold putK
  by_cases a : (kvs.any fun kv => decide (kv.1 = k)) = true
  · rw [if_pos a, valV_map]
    rw [valV_any] at a
    by_cases e : j = k
    · obtain ⟨x, hx⟩ := Option.isSome_iff_exists.mp a
      rw [if_pos e, e, hx, Option.map_some, if_pos rfl]
    · rw [if_neg e]
      cases valV kvs j with
      | none => rfl
      | some x => rw [Option.map_some, if_neg e]
  · rw [if_neg a]
    refine valV_snoc k j y kvs ?_
    rw [valV_any] at a
    cases q : valV kvs k with
    | none => rfl
    | some x => rw [q] at a; exact (a rfl).elim
theorem length_putK (kvs : List (κ × V)) (k : κ) (v : V) : (putK kvs k v).length ≤ kvs.length + 1 := by
  unfold putK
  split
  · rw [List.length_map]; omega
  · rw [List.length_append, List.length_cons, List.length_nil]; omega
theorem putK_new {kvs : List (κ × V)} {k : κ} (v : V) (h : valV kvs k = none) : putK kvs k v = kvs ++ [(k, v)] := by
  unfold putK
  rw [valV_any, h]
  exact if_neg (by decide)

theorem RelO.isSome_eq {o : Option V} {u : Option Value} (r : RelO o u) : o.isSome = u.isSome := by
  cases o with
  | none => cases u with
    | none => rfl
    | some _ => exact (show False from r).elim
  | some _ => cases u with
    | none => exact (show False from r).elim
    | some _ => rfl
theorem RelO.getD {o : Option V} {u : Option Value} {d : V} {d' : Value} (r : RelO o u) (rd : RelV d d') : RelV (o.getD d) (u.getD d') := by
  cases o with
  | none => cases u with
    | none => exact rd
    | some _ => exact (show False from r).elim
  | some _ => cases u with
    | none => exact (show False from r).elim
    | some _ => exact r

/-- raw tables of the same keys -/
theorem KV.val {kvs : List (κ × V)} {vs : List (κ × Value)} (r : KV kvs vs) (k : κ) : RelO (valV kvs k) (valueAt vs k) := by
  unfold KV at r
  induction r with
  | nil => exact True.intro
  | @cons p q ps qs h t ih =>
    obtain ⟨h1, h2⟩ := h
    by_cases e : p.1 = k
    · have e' : q.1 = k := h1.symm.trans e
      have b : valueAt (q :: qs) k = some q.2 := by simp [valueAt, List.find?_cons, e']
      rw [valV_pos e, b]; exact h2
    · have e' : ¬ q.1 = k := fun z => e (h1.trans z)
      have b : valueAt (q :: qs) k = valueAt qs k := by simp [valueAt, List.find?_cons, e']
      rw [valV_neg e, b]; exact ih
theorem KV.any {kvs : List (κ × V)} {vs : List (κ × Value)} (r : KV kvs vs) (k : κ) : (kvs.any fun kv => decide (kv.1 = k)) = vs.any fun kv => decide (kv.1 = k) := by
  unfold KV at r
  induction r with
  | nil => rfl
  | cons h t ih => rw [List.any_cons, List.any_cons, ih, h.1]
theorem KV.repl {kvs : List (κ × V)} {vs : List (κ × Value)} (r : KV kvs vs) (k : κ) {y : V} {u : Value} (ry : RelV y u) :
    KV (kvs.map fun kv => if kv.1 = k then (kv.1, y) else kv) (vs.map fun kv => if kv.1 = k then (kv.1, u) else kv) := by
  unfold KV at r ⊢
  induction r with
  | nil => exact .nil
  | @cons p q ps qs h t ih =>
    rw [List.map_cons, List.map_cons]
    refine .cons ?_ ih
    obtain ⟨h1, h2⟩ := h
    by_cases e : p.1 = k
    · rw [if_pos e, if_pos (h1.symm.trans e)]; exact ⟨h1, ry⟩
    · rw [if_neg e, if_neg (fun z => e (h1.trans z))]; exact ⟨h1, h2⟩
theorem KV.put {kvs : List (κ × V)} {vs : List (κ × Value)} (r : KV kvs vs) (k : κ) {y : V} {u : Value} (ry : RelV y u) : KV (putK kvs k y) (stored vs k u) := by
  unfold putK stored
  rw [r.any k]
  by_cases e : (vs.any fun kv => decide (kv.1 = k)) = true
  · rw [if_pos e, if_pos e]; exact r.repl k ry
  · rw [if_neg e, if_neg e]; exact Paired.snoc r ⟨rfl, ry⟩
theorem KV.drop {kvs : List (κ × V)} {vs : List (κ × Value)} (r : KV kvs vs) (k : κ) : KV (dropK kvs k) (without vs k) := by
  unfold KV at r ⊢
  unfold dropK without
  induction r with
  | nil => exact .nil
  | @cons p q ps qs h t ih =>
    obtain ⟨h1, h2⟩ := h
    rw [List.filter_cons, List.filter_cons]
    by_cases e : p.1 = k
    · have a : ¬ decide (p.1 ≠ k) = true := by simp [e]
      have b : ¬ decide (q.1 ≠ k) = true := by simp [h1.symm.trans e]
      rw [if_neg a, if_neg b]; exact ih
    · have e' : ¬ q.1 = k := fun z => e (h1.trans z)
      have a : decide (p.1 ≠ k) = true := by simp [e]
      have b : decide (q.1 ≠ k) = true := by simp [e']
      rw [if_pos a, if_pos b]; exact .cons ⟨h1, h2⟩ ih
theorem KV.keys {kvs : List (κ × V)} {vs : List (κ × Value)} (r : KV kvs vs) : kvs.map (·.1) = vs.map (·.1) := by
  unfold KV at r
  induction r with
  | nil => rfl
  | cons h t ih => rw [List.map_cons, List.map_cons, ih, h.1]
theorem KV.length {kvs : List (κ × V)} {vs : List (κ × Value)} (r : KV kvs vs) : kvs.length = vs.length := Paired.length r
theorem dropK_le (kvs : List (κ × V)) (k : κ) : (dropK kvs k).length ≤ kvs.length := List.length_filter_le _ _
end


/-! ### a tracked dict, its keys ints and texts or tuples of these -/
theorem kV_is {P : Program} {w : World} {k : Key} {u : Value} (r : RelV (kV k) u) : (mixKind P w).is k u = true := by
  cases k with
  | inl i => obtain ⟨t, e⟩ := (show ∃ t, u = Value.int i t from r); subst e; exact mixKind_int P w i t
  | inr x => obtain ⟨t, e⟩ := (show ∃ t, u = Value.str x t from r); subst e; exact mixKind_str P w x t
theorem kV_inj {a b : Key} (e : kV a = kV b) : a = b := by
  cases a with
  | inl i => cases b with
    | inl j => have e' : V.int i = V.int j := e; injection e' with e'; rw [e']
    | inr y => exact nomatch (show V.int i = V.str y from e)
  | inr x => cases b with
    | inl j => exact nomatch (show V.str x = V.int j from e)
    | inr y => have e' : V.str x = V.str y := e; injection e' with e'; rw [e']
theorem kVs_inj : ∀ {a b : List Key}, a.map kV = b.map kV → a = b
  | [], [], _ => rfl
  | [], _ :: _, e => by simp at e
  | _ :: _, [], e => by simp at e
  | x :: xs, y :: ys, e => by
    rw [List.map_cons, List.map_cons] at e
    injection e with e1 e2
    rw [kV_inj e1, kVs_inj e2]
theorem items_are {P : Program} {w : World} : ∀ {ks : List Key} {us : List Value}, Vals (ks.map kV) us → ItemsAre (mixKind P w) ks us
  | [], _, r => by rw [List.map_nil] at r; cases r; exact .nil
  | k :: ks, _, r => by
    rw [List.map_cons] at r
    cases r with
    | cons h t => exact .cons (kV_is h) (items_are t)

/-- raw entries of a dict with tuple keys -/
abbrev KT (H : Hp) : List (List Key × V) → List (List Key × Addr × Value) → Prop := Paired fun p q => p.1 = q.1 ∧ H q.2.1 = some (.tup (p.1.map kV)) ∧ RelV p.2 q.2.2
theorem KT.val {H : Hp} {kvs : List (List Key × V)} {xs : List (List Key × Addr × Value)} (r : KT H kvs xs) (k : List Key) : RelO (valV kvs k) ((atKey xs k).map (·.2)) := by
  induction r with
  | nil => exact True.intro
  | @cons p q ps qs h t ih =>
    obtain ⟨h1, _, h2⟩ := h
    by_cases e : p.1 = k
    · have e' : q.1 = k := h1.symm.trans e
      have b : atKey (q :: qs) k = some q.2 := by simp [atKey, List.find?_cons, e']
      rw [valV_pos e, b]; exact h2
    · have e' : ¬ q.1 = k := fun z => e (h1.trans z)
      have b : atKey (q :: qs) k = atKey qs k := by simp [atKey, List.find?_cons, e']
      rw [valV_neg e, b]; exact ih
theorem KT.repl {H : Hp} {kvs : List (List Key × V)} {xs : List (List Key × Addr × Value)} (r : KT H kvs xs) (k : List Key) {y : V} {u : Value} (ry : RelV y u) :
    KT H (kvs.map fun kv => if kv.1 = k then (kv.1, y) else kv) (xs.map (putAt k u)) := by
  induction r with
  | nil => exact .nil
  | @cons p q ps qs h t ih =>
    rw [List.map_cons, List.map_cons]
    refine .cons ?_ ih
    obtain ⟨h1, h2, h3⟩ := h
    unfold putAt
    by_cases e : p.1 = k
    · rw [if_pos e, if_pos (h1.symm.trans e)]; exact ⟨h1, h2, ry⟩
    · rw [if_neg e, if_neg (fun z => e (h1.trans z))]; exact ⟨h1, h2, h3⟩
theorem KT.put {H : Hp} {kvs : List (List Key × V)} {xs : List (List Key × Addr × Value)} (r : KT H kvs xs) (k : List Key) {b : Addr} {y : V} {u : Value} (hb : H b = some (.tup (k.map kV))) (ry : RelV y u) :
    KT H (putK kvs k y) (storedH xs k b u) := by
  have e : (kvs.any fun kv => decide (kv.1 = k)) = (atKey xs k).isSome := by
    rw [valV_any, (r.val k).isSome_eq, Option.isSome_map]
  unfold putK storedH
  rw [e]
  by_cases q : (atKey xs k).isSome = true
  · rw [if_pos q, if_pos q]; exact r.repl k ry
  · rw [if_neg q, if_neg q]; exact Paired.snoc r ⟨rfl, hb, ry⟩
theorem KT.keeps {H H' : Hp} {kvs : List (List Key × V)} {xs : List (List Key × Addr × Value)} (r : KT H kvs xs) (ht : ∀ b ys, H b = some (.tup ys) → H' b = some (.tup ys)) : KT H' kvs xs :=
  Paired.mapP r fun _ _ z => ⟨z.1, ht _ _ z.2.1, z.2.2⟩

section
variable {P : Program} {w : World} {H : Hp} {h : Heap} {a : Addr}
theorem rd_of {u : HO} (ok : HOk P w H h) (e : Rd H a u) : ObjOk P w H h a u := e.ok ok
theorem dk_rd {kvs : List (Key × V)} (ok : HOk P w H h) (e : Rd H a (.dK kvs)) : kvs.length ≤ sizeLine ∧ (a == sysModules) = false ∧ ∃ vs, KV kvs vs ∧ h.DictOf (mixKind P w) a vs :=
  show ObjOk P w H h a (.dK kvs) from rd_of ok e
theorem dk_of {kvs : List (Key × V)} (ok : HOk P w H h) (e : H a = some (.dK kvs)) : kvs.length ≤ sizeLine ∧ (a == sysModules) = false ∧ ∃ vs, KV kvs vs ∧ h.DictOf (mixKind P w) a vs := dk_rd ok (.inl e)
/-- a tracked tuple of ints and texts is a key -/
theorem key_of {ks : List Key} (ok : HOk P w H h) (e : H a = some (.tup (ks.map kV))) : (tupleKind (mixKind P w)).is h ks a := by
  obtain ⟨_, its, r, o, h1, h2, n, h3⟩ := (show ObjOk P w H h a (.tup (ks.map kV)) from ok a _ e)
  exact ⟨o, its.toArray, n, h1, h2, h3, by simpa using items_are r⟩
theorem dt_rd {kvs : List (List Key × V)} (ok : HOk P w H h) (e : Rd H a (.dT kvs)) : kvs.length ≤ sizeLine ∧ (a == sysModules) = false ∧
    ∃ xs, KT H kvs xs ∧ h.DictOfH (tupleKind (mixKind P w)) a xs := by
  obtain ⟨z, y, xs, r, o, es, ep, h1, h2, h3, h4, h5⟩ := (show ObjOk P w H h a (.dT kvs) from rd_of ok e)
  refine ⟨z, y, xs, r, o, es, ep, h1, h2, h3, h4, fun x hx => ?_, h5⟩
  have all : ∀ {l : List (List Key × V)} {m : List (List Key × Addr × Value)}, KT H l m → ∀ x ∈ m, (tupleKind (mixKind P w)).is h x.1 x.2.1 := by
    intro l m q
    induction q with
    | nil => intro x hx; exact nomatch hx
    | @cons p q ps qs hq t ih =>
      intro x hx
      rcases List.mem_cons.mp hx with e | hx
      · subst e
        exact key_of ok (by rw [← hq.1]; exact hq.2.1)
      · exact ih x hx
  exact all r x hx
theorem dt_of {kvs : List (List Key × V)} (ok : HOk P w H h) (e : H a = some (.dT kvs)) : kvs.length ≤ sizeLine ∧ (a == sysModules) = false ∧
    ∃ xs, KT H kvs xs ∧ h.DictOfH (tupleKind (mixKind P w)) a xs := dt_rd ok (.inl e)
end

/-- what the dict at a holds at the key y -/
def DGet (H : Hp) (a : Addr) (y : V) (r : Option V) : Prop :=
  (∃ kvs k, Rd H a (.dK kvs) ∧ y = kV k ∧ r = valV kvs k) ∨ ∃ kvs k b, Rd H a (.dT kvs) ∧ y = .ref b ∧ H b = some (.tup (k.map kV)) ∧ r = valV kvs k
/-- the heap behind a[y] = v -/
def DPut (H : Hp) (a : Addr) (y v : V) (H' : Hp) : Prop :=
  (∃ kvs k, H a = some (.dK kvs) ∧ y = kV k ∧ kvs.length < sizeLine ∧ H' = upd H a (.dK (putK kvs k v))) ∨
  ∃ kvs k b, H a = some (.dT kvs) ∧ y = .ref b ∧ H b = some (.tup (k.map kV)) ∧ kvs.length < sizeLine ∧ H' = upd H a (.dT (putK kvs k v))
theorem DGet.k {H : Hp} {a : Addr} {kvs : List (Key × V)} {k : Key} (e : H a = some (.dK kvs)) : DGet H a (kV k) (valV kvs k) := .inl ⟨kvs, k, .inl e, rfl, rfl⟩
theorem DGet.t {H : Hp} {a b : Addr} {kvs : List (List Key × V)} {k : List Key} (e : H a = some (.dT kvs)) (eb : H b = some (.tup (k.map kV))) : DGet H a (.ref b) (valV kvs k) := .inr ⟨kvs, k, b, .inl e, rfl, eb, rfl⟩
theorem DPut.k {H : Hp} {a : Addr} {kvs : List (Key × V)} {k : Key} {v : V} (e : H a = some (.dK kvs)) (hl : kvs.length < sizeLine) : DPut H a (kV k) v (upd H a (.dK (putK kvs k v))) := .inl ⟨kvs, k, e, rfl, hl, rfl⟩
theorem DPut.t {H : Hp} {a b : Addr} {kvs : List (List Key × V)} {k : List Key} {v : V} (e : H a = some (.dT kvs)) (eb : H b = some (.tup (k.map kV))) (hl : kvs.length < sizeLine) :
    DPut H a (.ref b) v (upd H a (.dT (putK kvs k v))) := .inr ⟨kvs, k, b, e, rfl, eb, hl, rfl⟩


section
variable {X : Cx} {pins : List (Addr × Obj)} {σ : St} {H : Hp} {s : Shared} {a : Addr} {y v : V} {u r : Value} {o : Option V} {A : Around} {E : Value → Shared → Prop}

theorem Inv.big (I : Inv X pins σ H s) : sysModules < s.heap.objs.size := by
  have h : mainGlobals < s.heap.objs.size := (I.mod.glob.keeps I.bk).lt
  exact Nat.lt_trans (by decide) h

/-- d[y], there -/
theorem d_getItem {Q : Value → Shared → Prop} (hu : A.units + 1 < cLine) (I : Inv X pins σ H s) (g : DGet H a y (some v)) (ry : RelV y u) (h : ∀ w' s', Inv X pins σ H s' → RelV v w' → Q w' s') :
    wpAny (model X.prog X.w) A (getItem (.ref a) u) Q E s := by
  rcases g with ⟨kvs, k, e, ey, l⟩ | ⟨kvs, k, b, e, ey, eb, l⟩
  · subst ey
    obtain ⟨z, hd, vs, rel, dd⟩ := dk_rd I.hok e
    obtain ⟨w', hw, rw'⟩ := RelO.some_of (v := v) (o := valueAt vs k) (by rw [l]; exact rel.val k)
    exact wpAny_getItem_of (kV_is ry) dd.mapOf hw (h w' _ (I.tok _) rw')
  · subst ey
    cases (show u = Value.ref b from ry)
    obtain ⟨z, hd, xs, rel, dd⟩ := dt_rd I.hok e
    obtain ⟨w', hw, rw'⟩ := RelO.some_of (v := v) (o := (atKey xs k).map (·.2)) (by rw [l]; exact rel.val k)
    obtain ⟨p, hp, hp2⟩ := Option.map_eq_some_iff.mp hw
    refine wpAny_getItem_heap (tupleKind_room_in1 hu) (key_of I.hok eb) dd hp ?_
    rw [hp2]
    exact h w' _ (I.tok _) rw'
/-- y in d -/
theorem d_in {Q : Value → Shared → Prop} (hu : A.units + 1 < cLine) (I : Inv X pins σ H s) (g : DGet H a y o) (ry : RelV y u) (h : ∀ s', Inv X pins σ H s' → Q (.bool o.isSome) s') :
    wpAny (model X.prog X.w) A (compareOp .In u (.ref a)) Q E s := by
  rcases g with ⟨kvs, k, e, ey, l⟩ | ⟨kvs, k, b, e, ey, eb, l⟩
  · subst ey
    obtain ⟨z, hd, vs, rel, dd⟩ := dk_rd I.hok e
    refine wpAny_in_of (kV_is ry) hd dd.mapOf ?_
    rw [← (rel.val k).isSome_eq, ← l]
    exact h _ (I.tok _)
  · subst ey
    cases (show u = Value.ref b from ry)
    obtain ⟨z, hd, xs, rel, dd⟩ := dt_rd I.hok e
    refine wpAny_in_heap (tupleKind_room_in1 hu) (key_of I.hok eb) hd dd ?_
    have q := (rel.val k).isSome_eq
    rw [Option.isSome_map] at q
    rw [← q, ← l]
    exact h _ (I.tok _)
theorem d_notIn {Q : Value → Shared → Prop} (hu : A.units + 1 < cLine) (I : Inv X pins σ H s) (g : DGet H a y o) (ry : RelV y u) (h : ∀ s', Inv X pins σ H s' → Q (.bool (!o.isSome)) s') :
    wpAny (model X.prog X.w) A (compareOp .NotIn u (.ref a)) Q E s := by
  rcases g with ⟨kvs, k, e, ey, l⟩ | ⟨kvs, k, b, e, ey, eb, l⟩
  · subst ey
    obtain ⟨z, hd, vs, rel, dd⟩ := dk_rd I.hok e
    refine wpAny_notIn_of (kV_is ry) hd dd.mapOf ?_
    rw [← (rel.val k).isSome_eq, ← l]
    exact h _ (I.tok _)
  · subst ey
    cases (show u = Value.ref b from ry)
    obtain ⟨z, hd, xs, rel, dd⟩ := dt_rd I.hok e
    refine wpAny_notIn_heap (tupleKind_room_in1 hu) (key_of I.hok eb) hd dd ?_
    have q := (rel.val k).isSome_eq
    rw [Option.isSome_map] at q
    rw [← q, ← l]
    exact h _ (I.tok _)
/-- a dict's object is replaced -/
theorem d_write {h' : Heap} {t' : Nat} {ob : HO} (I : Inv X pins σ H s) (mu : Mut (H a)) (hs : Heap.SameBut a s.heap h') (he : ∃ q, h'.get? a = some q) (new : ObjOk X.prog X.w (upd H a ob) h' a ob) :
    Inv X pins σ (upd H a ob) { s with heap := h', toks := t' } :=
  I.write (x := a) (e := a) mu (.inl rfl) (fun b q hb z => (hs.2 b hb).trans z) he new
theorem dk_new {P : Program} {w : World} {H' : Hp} {h' : Heap} {kvs : List (Key × V)} {vs : List (Key × Value)} (z : kvs.length ≤ sizeLine) (hd : (a == sysModules) = false) (rel : KV kvs vs) (dd : h'.DictOf (mixKind P w) a vs) :
    ObjOk P w H' h' a (.dK kvs) := ⟨z, hd, vs, rel, dd⟩
/-- d[y] = v -/
theorem d_setItem {H' : Hp} {Q : Unit → Shared → Prop} (hu : A.units + 1 < cLine) (I : Inv X pins σ H s) (g : DPut H a y v H') (ry : RelV y u) (rv : RelV v r) (h : ∀ s', Inv X pins σ H' s' → Q () s') :
    wpAny (model X.prog X.w) A (setItem (.ref a) u r) Q E s := by
  rcases g with ⟨kvs, k, e, ey, l, eH⟩ | ⟨kvs, k, b, e, ey, eb, l, eH⟩
  · subst ey eH
    obtain ⟨z, hd, vs, rel, dd⟩ := dk_of I.hok e
    have hz : vs.length ≤ sizeLine := by rw [← rel.length]; exact z
    have hl : (putK kvs k v).length ≤ sizeLine := by have := length_putK kvs k v; omega
    refine wpAny_setItem_pairs (hsz := hz) (kV_is ry) dd fun h' dd' hs => h _ ?_
    have he : ∃ q, h'.get? a = some q := let ⟨q, _, _, hq, _⟩ := dd'; ⟨q, hq⟩
    exact d_write I (by rw [e]; exact True.intro) hs he (dk_new hl hd (rel.put k rv) dd')
  · subst ey eH
    cases (show u = Value.ref b from ry)
    obtain ⟨z, hd, xs, rel, dd⟩ := dt_of I.hok e
    have hz : xs.length ≤ sizeLine := by rw [← Paired.length rel]; exact z
    have hl : (putK kvs k v).length ≤ sizeLine := by have := length_putK kvs k v; omega
    refine wpAny_setItem_heap (hsz := hz) (tupleKind_room_in1 hu) (key_of I.hok eb) dd fun h' dd' hs => h _ ?_
    obtain ⟨q, es, ep, hq, h2, h3, h4, _, h5⟩ := dd'
    refine d_write I (by rw [e]; exact True.intro) hs ⟨q, hq⟩ ⟨hl, hd, _, (rel.put k eb rv).keeps fun c ys ec => ?_, q, es, ep, hq, h2, h3, h4, h5⟩
    rw [upd_ne (ne_of ec e (fun z => nomatch z))]
    exact ec
end

section
variable {X : Cx} {pins : List (Addr × Obj)} {σ : St} {H : Hp} {s : Shared} {a : Addr} {kvs : List (Key × V)} {k : Key} {u : Value} {A : Around} {E : Value → Shared → Prop}
/-- del d[k] -/
theorem d_delItem {Q : Unit → Shared → Prop} (I : Inv X pins σ H s) (e : H a = some (.dK kvs)) (ry : RelV (kV k) u) (l : (valV kvs k).isSome = true) (h : ∀ s', Inv X pins σ (upd H a (.dK (dropK kvs k))) s' → Q () s') :
    wpAny (model X.prog X.w) A (delItem (.ref a) u) Q E s := by
  obtain ⟨z, hd, vs, rel, dd⟩ := dk_of I.hok e
  refine wpAny_delItem_slot dd.typeIs (by decide) PySem.F.slot_dict_delitem
    (call_meetsIn PySem.F.slot_dict_delitem dd.typeIs PySem.F.entry_dict_delitem (PySem.F.args_dict_delitem_2 _ _) (meets_dict_delitem_pairs (mixKind X.prog X.w) a (kV_is ry)) ⟨vs, dd, by rw [← rel.length]; exact z, by rw [← (rel.val k).isSome_eq]; exact l, fun h' dd' hs => h _ ?_⟩)
  have he : ∃ q, h'.get? a = some q := let ⟨q, _, _, hq, _⟩ := dd'; ⟨q, hq⟩
  exact d_write I (by rw [e]; exact True.intro) hs he (dk_new (Nat.le_trans (dropK_le kvs k) z) hd (rel.drop k) dd')
/-- d.pop(k[, x]), there -/
theorem d_pop {v : V} {more : List Value} {Q : Value → Shared → Prop} (I : Inv X pins σ H s) (e : H a = some (.dK kvs)) (ry : RelV (kV k) u) (l : valV kvs k = some v) (hm : more = [] ∨ ∃ x, more = [x])
    (h : ∀ w' s', Inv X pins σ (upd H a (.dK (dropK kvs k))) s' → RelV v w' → Q w' s') : wpAny (model X.prog X.w) A (call (.builtin "dict.pop") (.ref a :: u :: more)) Q E s := by
  obtain ⟨z, hd, vs, rel, dd⟩ := dk_of I.hok e
  obtain ⟨w', hw, rw'⟩ := RelO.some_of (v := v) (o := valueAt vs k) (by rw [← l]; exact rel.val k)
  have hp : (keyPart u).isSome = true := by
    cases k with
    | inl i => obtain ⟨t, q⟩ := (show ∃ t, u = Value.int i t from ry); subst q; rfl
    | inr x => obtain ⟨t, q⟩ := (show ∃ t, u = Value.str x t from ry); subst q; rfl
  have ha : argsOk "dict.pop" ⟨.ref a :: u :: more, []⟩ := by
    rcases hm with q | ⟨x, q⟩
    · subst q; exact PySem.F.args_dict_pop_2 _ _
    · subst q; exact PySem.F.args_dict_pop_3 _ _ _
  refine call_meetsIn PySem.F.slot_dict_pop dd.typeIs PySem.F.entry_dict_pop ha (meets_dict_pop_there (mixKind X.prog X.w) a (kV_is ry) more hm hp)
    ⟨vs, w', dd, by rw [← rel.length]; exact z, hw, fun h' dd' hs => h w' _ ?_ rw'⟩
  have he : ∃ q, h'.get? a = some q := let ⟨q, _, _, hq, _⟩ := dd'; ⟨q, hq⟩
  exact d_write I (by rw [e]; exact True.intro) hs he (dk_new (Nat.le_trans (dropK_le kvs k) z) hd (rel.drop k) dd')
/-- d.pop(k, x), not there -/
theorem d_popD {r : Value} {Q : Value → Shared → Prop} (I : Inv X pins σ H s) (e : H a = some (.dK kvs)) (ry : RelV (kV k) u) (l : valV kvs k = none) (h : ∀ s', Inv X pins σ H s' → Q r s') :
    wpAny (model X.prog X.w) A (call (.builtin "dict.pop") [.ref a, u, r]) Q E s := by
  obtain ⟨z, hd, vs, rel, dd⟩ := dk_of I.hok e
  have hn : valueAt vs k = none := RelO.none_of (by rw [← l]; exact rel.val k)
  have hp : (keyPart u).isSome = true := by
    cases k with
    | inl i => obtain ⟨t, q⟩ := (show ∃ t, u = Value.int i t from ry); subst q; rfl
    | inr x => obtain ⟨t, q⟩ := (show ∃ t, u = Value.str x t from ry); subst q; rfl
  exact call_meetsIn PySem.F.slot_dict_pop dd.typeIs PySem.F.entry_dict_pop (PySem.F.args_dict_pop_3 _ _ _) (meets_dict_pop_default (mixKind X.prog X.w) a (kV_is ry) hd hp r) ⟨vs, dd, hn, h _ (I.tok _)⟩
/-- d.clear() -/
theorem d_clear {Q : Value → Shared → Prop} (I : Inv X pins σ H s) (e : H a = some (.dK kvs)) (h : ∀ s', Inv X pins σ (upd H a (.dK [])) s' → Q .none s') : wpAny (model X.prog X.w) A (call (.builtin "dict.clear") [.ref a]) Q E s := by
  obtain ⟨z, hd, vs, rel, dd⟩ := dk_of I.hok e
  refine call_meetsIn PySem.F.slot_dict_clear dd.typeIs PySem.F.entry_dict_clear (PySem.F.args_dict_clear_1 _) (meets_dict_clear (mixKind X.prog X.w) a) ⟨vs, dd, by rw [← rel.length]; exact z, fun h' dd' hs => h _ ?_⟩
  have he : ∃ q, h'.get? a = some q := let ⟨q, _, _, hq, _⟩ := dd'; ⟨q, hq⟩
  exact d_write (t' := s.toks) I (by rw [e]; exact True.intro) hs he (dk_new (Nat.zero_le _) hd .nil dd')
/-- len(d) -/
theorem d_len {Q : Value → Shared → Prop} (I : Inv X pins σ H s) (e : Rd H a (.dK kvs)) (h : ∀ t s', Inv X pins σ H s' → Q (.int kvs.length t) s') : wpAny (model X.prog X.w) A (call (.builtin "len") [.ref a]) Q E s := by
  obtain ⟨z, hd, vs, rel, dd⟩ := dk_rd I.hok e
  refine call_len_dict hd dd (by rw [← rel.length]; rw [sizeLine_eq] at z; omega) ?_
  rw [← rel.length]
  exact h _ _ (I.tok _)
/-- if d -/
theorem d_truth {Q : Bool → Shared → Prop} (I : Inv X pins σ H s) (e : Rd H a (.dK kvs)) (h : ∀ s', Inv X pins σ H s' → Q (!kvs.isEmpty) s') : wpAny (model X.prog X.w) A (truthy (.ref a)) Q E s := by
  obtain ⟨z, hd, vs, rel, dd⟩ := dk_rd I.hok e
  refine wpAny_truthy_dict hd dd (by rw [← rel.length]; rw [sizeLine_eq] at z; omega) ?_
  have q : kvs.isEmpty = vs.isEmpty := by cases rel <;> rfl
  rw [← q]
  exact h _ (I.tok _)
end


/-! ### readings and rules -/
/-- the element of a subscription, not a slice -/
def NoSl (i : Expr) : Prop := ∀ ov iv, subscripted i false ov iv = operate [ov, iv] (getItem ov iv)
theorem subD_of {prog : Program} {w : World} {A : Around} {E : Value → Shared → Prop} {s : Shared} {env : Env} {value slice : Expr} {pos : Pos} {T id : String} {Q : Value → Shared → Prop}
    (hl : typeLookup (.type T) "__getitem__" = pure (some (.builtin id))) (hs : NoSl slice)
    (h : wpAny (model prog w) A (eval value env) (fun o s₁ => wpAny (model prog w) A (eval slice env) (fun i s₂ => s₂.TypeIs o T ∧ wpAny (model prog w) A (getItem o i) Q E s₂) E s₁) E s) :
    wpAny (model prog w) A (eval (.Subscript value slice pos) env) Q E s := by
  refine Subscript_ (wpAny_mono h (fun o s₁ h₁ => wpAny_mono h₁ (fun i s₂ h₂ => ?_) fun _ _ x => x) fun _ _ x => x)
  obtain ⟨hT, h₂⟩ := h₂
  unfold subscriptTail
  refine wpAny_bind ?_
  rw [getitemInPython_of_ne hT.not_modules]
  refine wpAny_bind (wpAny_specialOf hT hl ?_)
  have fin : wpAny (model prog w) A (subscripted slice false o i) (fun r s₃ => wpAny (model prog w) A (letTemporaryGo value o r >>= fun _ => pure r) Q E s₃) E s₂ := by
    rw [hs o i]
    exact wpAny_operating (wpAny_mono h₂ (fun r s₃ h₃ => wpAny_bind (wpAny_letTemporaryGo (wpAny_pure h₃))) fun _ _ x => x)
  first
    | exact wpAny_pure (wpAny_bind fin)
    | exact wpAny_bind (wpAny_pure (wpAny_bind fin))
    | exact wpAny_bind fin

theorem dict_typeIs {X : Cx} {pins : List (Addr × Obj)} {σ : St} {H : Hp} {s : Shared} {a : Addr} {y : V} {o : Option V} (I : Inv X pins σ H s) (g : DGet H a y o) : s.TypeIs (.ref a) "dict" := by
  rcases g with ⟨kvs, k, e, _, _⟩ | ⟨kvs, k, b, e, _, _, _⟩
  · obtain ⟨_, _, vs, _, dd⟩ := dk_rd I.hok e
    exact dd.typeIs
  · obtain ⟨_, _, xs, _, dd⟩ := dt_rd I.hok e
    exact dd.typeIs
theorem dict_noDict {X : Cx} {pins : List (Addr × Obj)} {σ : St} {H : Hp} {s : Shared} {a : Addr} {y : V} {o : Option V} (I : Inv X pins σ H s) (g : DGet H a y o) :
    ∀ b, Value.ref a = .ref b → ∃ ob, s.heap.get? b = some ob ∧ ob.dict = none := fun b q => by
  cases q
  rcases g with ⟨kvs, k, e, _, _⟩ | ⟨kvs, k, b, e, _, _, _⟩
  · obtain ⟨_, _, vs, _, ob, _, _, h1, h2, _⟩ := dk_rd I.hok e
    exact ⟨ob, h1, h2.2.1⟩
  · obtain ⟨_, _, xs, _, ob, _, _, h1, h2, _⟩ := dt_rd I.hok e
    exact ⟨ob, h1, h2.2.1⟩

/-- d[y] -/
def tDGet (td ty : TE) : TE := fun σ H Q => td σ H fun x H1 => ty σ H1 fun y H2 => ∃ a v, x = .ref a ∧ DGet H2 a y (some v) ∧ Q v H2
/-- y in d, y not in d -/
def tDIn (ty td : TE) : TE := fun σ H Q => ty σ H fun y H1 => td σ H1 fun x H2 => ∃ a o, x = .ref a ∧ DGet H2 a y o ∧ Q (.bl o.isSome) H2
def tDNotIn (ty td : TE) : TE := fun σ H Q => ty σ H fun y H1 => td σ H1 fun x H2 => ∃ a o, x = .ref a ∧ DGet H2 a y o ∧ Q (.bl (!o.isSome)) H2
/-- d[y] = v -/
def sDPut (td ty tv : TE) : TS := fun D σ H => tv σ H fun v H1 => td σ H1 fun x H2 => ty σ H2 fun y H3 => ∃ a H4, x = .ref a ∧ DPut H3 a y v H4 ∧ D.nx σ H4
/-- d[y] op= v -/
def sDAug (td ty tv : TE) (rd : V → V → Hp → VK → Prop) : TS := fun D σ H => td σ H fun x H1 => ty σ H1 fun y H2 => ∃ a v, x = .ref a ∧ DGet H2 a y (some v) ∧
  tv σ H2 fun y2 H3 => rd v y2 H3 fun z H4 => ∃ H5, DPut H4 a y z H5 ∧ D.nx σ H5
/-- del d[y] -/
def sDDel (td ty : TE) : TS := fun D σ H => td σ H fun x H1 => ty σ H1 fun y H2 => ∃ a kvs k, x = .ref a ∧ H2 a = some (.dK kvs) ∧ y = kV k ∧ (valV kvs k).isSome = true ∧ D.nx σ (upd H2 a (.dK (dropK kvs k)))

section
variable {X : Cx} {o i e value : Expr} {pos pos' tpos : Pos} {td ty tv : TE}
theorem pe_dget (hu : X.A.units + 1 < cLine) (ho : PE X o td) (hi : PE X i ty) (hs : NoSl i) : PE X (.Subscript o i pos) (tDGet td ty) := by
  intro pins s σ H Q I h
  refine subD_of PySem.F.slot_dict_getitem.lookup hs (thn (ho pins s σ H _ I h) fun u s1 ⟨x, H1, I1, rx, q1⟩ => thn (hi pins s1 σ H1 _ I1 q1) fun iv s2 ⟨y, H2, I2, ry, a, v, ex, g, q2⟩ => ?_)
  subst ex
  obtain rfl : u = Value.ref a := rx
  exact ⟨dict_typeIs I2 g, d_getItem hu I2 g ry fun w' s3 I3 rw' => ⟨v, H2, I3, rw', q2⟩⟩
theorem pc_din (hu : X.A.units + 1 < cLine) (hi : PE X i ty) (ho : PE X o td) : PC X .In i o (tDIn ty td) := by
  intro pins s σ H Q I h
  refine thn (hi pins s σ H _ I h) fun iv s1 ⟨y, H1, I1, ry, q1⟩ => thn (ho pins s1 σ H1 _ I1 q1) fun u s2 ⟨x, H2, I2, rx, a, ov, ex, g, q2⟩ => ?_
  subst ex
  obtain rfl : u = Value.ref a := rx
  exact d_in hu I2 g ry fun s3 I3 => ⟨.bl ov.isSome, H2, I3, rfl, q2⟩
theorem pc_dnotin (hu : X.A.units + 1 < cLine) (hi : PE X i ty) (ho : PE X o td) : PC X .NotIn i o (tDNotIn ty td) := by
  intro pins s σ H Q I h
  refine thn (hi pins s σ H _ I h) fun iv s1 ⟨y, H1, I1, ry, q1⟩ => thn (ho pins s1 σ H1 _ I1 q1) fun u s2 ⟨x, H2, I2, rx, a, ov, ex, g, q2⟩ => ?_
  subst ex
  obtain rfl : u = Value.ref a := rx
  exact d_notIn hu I2 g ry fun s3 I3 => ⟨.bl (!ov.isSome), H2, I3, rfl, q2⟩
theorem ps_dput (hu : X.A.units + 1 < cLine) (ho : PE X o td) (hi : PE X i ty) (hv : PE X value tv) (hs : swapsWith value (some (.Subscript o i pos')) pos.line X.env = pure false) :
    PS X (.Assign [.Subscript o i pos'] value pos) (sDPut td ty tv) := by
  intro pins s σ H D I h
  refine wpAny_Assign_Subscript (thn (hv pins s σ H _ I h) fun r s1 ⟨v, H1, I1, rv, q1⟩ => thn (ho pins s1 σ H1 _ I1 q1) fun u s2 ⟨x, H2, I2, rx, q2⟩ => thn (hi pins s2 σ H2 _ I2 q2) fun iv s3 ⟨y, H3, I3, ry, a, H4, ex, g, q3⟩ => ?_) hs
  subst ex
  obtain rfl : u = Value.ref a := rx
  exact d_setItem hu I3 g ry rv fun s4 I4 => ⟨σ, H4, I4, q3⟩
theorem ps_daug {op : Operator} {rd : V → V → Hp → VK → Prop} (hu : X.A.units + 1 < cLine) (ho : PE X o td) (hi : PE X i ty) (hv : PE X value tv) (hop : InOp X op rd)
    (ha : ∀ ov iv new, augStore i ov iv new = (do holding [new, ov, iv] (setItem ov iv new); release [new, ov, iv] []; pure .next)) : PS X (.AugAssign (.Subscript o i tpos) op value pos) (sDAug td ty tv rd) := by
  intro pins s σ H D I h
  refine wpAny_AugAssign_SubscriptAny (thn (ho pins s σ H _ I h) fun u s1 ⟨x, H1, I1, rx, q1⟩ => thn (hi pins s1 σ H1 _ I1 q1) fun iv s2 ⟨y, H2, I2, ry, a, v, ex, g, q2⟩ => ?_) ha
  subst ex
  obtain rfl : u = Value.ref a := rx
  refine d_getItem hu I2 g ry fun w' s3 I3 rw' => thn (hv pins s3 σ H2 _ I3 q2) fun w2 s4 ⟨y2, H3, I4, ry2, q3⟩ => thn (hop pins s4 σ H3 v y2 w' w2 _ I4 rw' ry2 q3) fun w3 s5 ⟨z, H4, I5, rz, H5, g5, q4⟩ => ?_
  exact d_setItem hu I5 g5 ry rz fun s6 I6 => ⟨σ, H5, I6, q4⟩
theorem ps_ddel (ho : PE X o td) (hi : PE X i ty) : PS X (.Delete [.Subscript o i tpos] pos) (sDDel td ty) := by
  intro pins s σ H D I h
  refine wpAny_Delete (wpAny_deleteEach_cons (wpAny_delete_Subscript (thn (ho pins s σ H _ I h) fun u s1 ⟨x, H1, I1, rx, q1⟩ => thn (hi pins s1 σ H1 _ I1 q1) fun iv s2 ⟨y, H2, I2, ry, a, kvs, k, ex, e, ey, l, q2⟩ => ?_)))
  subst ex ey
  obtain rfl : u = Value.ref a := rx
  exact d_delItem I2 e ry l fun s3 I3 => wpAny_deleteEach_nil ⟨σ, _, I3, q2⟩
end


/-! ### displays -/
theorem dk_empty {P : Program} {w : World} {H : Hp} (h : Heap) (hb : sysModules < h.objs.size) : ObjOk P w H (h.push { cls := .type "dict", data := .dict #[] }) h.objs.size (.dK []) :=
  ⟨Nat.zero_le _, beq_eq_false_iff_ne.mpr (Ne.symm (Nat.ne_of_lt hb)), [], .nil, Heap.DictOf.new h⟩
theorem dt_empty {P : Program} {w : World} {H : Hp} (h : Heap) (hb : sysModules < h.objs.size) : ObjOk P w H (h.push { cls := .type "dict", data := .dict #[] }) h.objs.size (.dT []) :=
  ⟨Nat.zero_le _, beq_eq_false_iff_ne.mpr (Ne.symm (Nat.ne_of_lt hb)), [], .nil, _, #[], 0, Heap.get?_push_size _ rfl, ⟨rfl, rfl, rfl⟩, rfl, rfl, List.nodup_nil⟩
/-- {}, to be a dict of the kind that is wanted -/
def tDNewK : TE := fun _ H Q => ∀ p, H p = none → Q (.ref p) (upd H p (.dK []))
def tDNewT : TE := fun _ H Q => ∀ p, H p = none → Q (.ref p) (upd H p (.dT []))
section
variable {X : Cx} {pos : Pos}
theorem pe_dnewK : PE X (.Dict [] [] pos) tDNewK := fun pins s σ H Q I h =>
  wpAny_Dict_empty ⟨.ref s.heap.objs.size, _, I.laid (a := s.heap.objs.size) (o := .dK []) (t' := s.toks) (fun _ _ q => Heap.get?_push_of_some _ q) (Nat.le_refl _) (dk_empty s.heap I.big), rfl, h _ (I.hok.fresh (Nat.le_refl _))⟩
theorem pe_dnewT : PE X (.Dict [] [] pos) tDNewT := fun pins s σ H Q I h =>
  wpAny_Dict_empty ⟨.ref s.heap.objs.size, _, I.laid (a := s.heap.objs.size) (o := .dT []) (t' := s.toks) (fun _ _ q => Heap.get?_push_of_some _ q) (Nat.le_refl _) (dt_empty s.heap I.big), rfl, h _ (I.hok.fresh (Nat.le_refl _))⟩
end

/-- the pairs of a display, from the left -/
def tPairs : List (TE × TE) → St → Hp → (List (V × V) → Hp → Prop) → Prop
  | [], _, H, Q => Q [] H
  | (tk, tv) :: r, σ, H, Q => tk σ H fun x H1 => tv σ H1 fun y H2 => tPairs r σ H2 fun ps H3 => Q ((x, y) :: ps) H3
abbrev VV : List (V × V) → List (Value × Value) → Prop := Paired fun p q => RelV p.1 q.1 ∧ RelV p.2 q.2
def PPs (X : Cx) (pos : Pos) (keys : List (Option Expr)) (values : List Expr) (trs : List (TE × TE)) : Prop :=
  ∀ (pins : List (Addr × Obj)) (s : Shared) (σ : St) (H : Hp) (Q : List (V × V) → Hp → Prop), Inv X pins σ H s → tPairs trs σ H Q →
    wpAny (model X.prog X.w) X.A (evalPairs (pairTrees keys values X.env pos)) (fun vs s' => ∃ ps H', Inv X pins σ H' s' ∧ VV ps vs ∧ Q ps H') X.xe s
theorem pps_nil {X : Cx} {pos : Pos} : PPs X pos [] [] [] := fun pins s σ H Q I h => pairTrees_nil_walk ⟨[], H, I, .nil, h⟩
theorem pps_cons {X : Cx} {pos : Pos} {k v : Expr} {ks : List (Option Expr)} {vs : List Expr} {tk tv : TE} {trs : List (TE × TE)} (hk : PE X k tk) (hv : PE X v tv) (hr : PPs X pos ks vs trs) :
    PPs X pos (some k :: ks) (v :: vs) ((tk, tv) :: trs) := fun pins s σ H Q I h =>
  pairTrees_cons_walk (thn (hk pins s σ H _ I h) fun u s1 ⟨x, H1, I1, rx, q1⟩ => thn (hv pins s1 σ H1 _ I1 q1) fun w2 s2 ⟨y, H2, I2, ry, q2⟩ =>
    thn (hr pins s2 σ H2 _ I2 q2) fun ws s3 ⟨ps, H3, I3, rel, q3⟩ => ⟨(x, y) :: ps, H3, I3, .cons ⟨rx, ry⟩ rel, q3⟩)

def mergeK (kvs more : List (Key × V)) : List (Key × V) := more.foldl (fun acc kv => putK acc kv.1 kv.2) kvs
theorem KV.merge : ∀ {more : List (Key × V)} {rs : List (Key × Value)} {kvs : List (Key × V)} {vs : List (Key × Value)}, KV more rs → KV kvs vs → KV (mergeK kvs more) (merged vs rs) := by
  intro more rs kvs vs r
  unfold KV at r
  induction r generalizing kvs vs with
  | nil => intro q; exact q
  | @cons p q ps qs h t ih =>
    intro r0
    have e : KV (putK kvs p.1 p.2) (stored vs q.1 q.2) := by
      have := r0.put p.1 h.2
      rw [← h.1]; exact this
    exact ih e
theorem length_mergeK : ∀ (more kvs : List (Key × V)), (mergeK kvs more).length ≤ kvs.length + more.length
  | [], kvs => by show kvs.length ≤ kvs.length + 0; omega
  | p :: r, kvs => by
    have h1 := length_mergeK r (putK kvs p.1 p.2)
    have h2 := length_putK kvs p.1 p.2
    show (mergeK (putK kvs p.1 p.2) r).length ≤ _
    rw [List.length_cons]; omega
theorem carries_of {P : Program} {w : World} : ∀ {kvs : List (Key × V)} {ws : List (Value × Value)}, VV (kvs.map fun kv => (kV kv.1, kv.2)) ws → ∃ rs, Carries (mixKind P w) ws rs ∧ KV kvs rs
  | [], _, r => by rw [List.map_nil] at r; cases r; exact ⟨[], True.intro, .nil⟩
  | p :: kvs, _, r => by
    rw [List.map_cons] at r
    cases r with
    | @cons a b as bs h t =>
      obtain ⟨rs, c, q⟩ := carries_of (P := P) (w := w) t
      obtain ⟨b1, b2⟩ := b
      exact ⟨(p.1, b2) :: rs, ⟨kV_is h.1, rfl, c⟩, .cons ⟨rfl, h.2⟩ q⟩
/-- {k: v, ..} with keys ints and texts; the new dict stands empty while the pairs are made -/
def tDisp (trs : List (TE × TE)) : TE := fun σ H Q => ∀ p, H p = none → tPairs trs σ (upd H p (.dK [])) fun ps H2 => H2 p = some (.dK []) ∧ ∃ kvs : List (Key × V), ps = kvs.map (fun kv => (kV kv.1, kv.2)) ∧ kvs.length ≤ 15 ∧ Q (.ref p) (upd H2 p (.dK (mergeK [] kvs)))
theorem pe_disp {X : Cx} {pos : Pos} {keys : List (Option Expr)} {values : List Expr} {trs : List (TE × TE)} (h : PPs X pos keys values trs) (hall : keys.all (·.isSome) = true) (hl : keys.length = values.length) (h0 : keys ≠ [])
    (h15 : keys.length ≤ 15) : PE X (.Dict keys values pos) (tDisp trs) := by
  intro pins s σ H Q I q
  have hn := I.hok.fresh (Nat.le_refl s.heap.objs.size)
  have I1 := I.laid (a := s.heap.objs.size) (o := .dK []) (h' := s.heap.push { cls := .type "dict", data := .dict #[] }) (t' := s.toks) (fun _ _ q => Heap.get?_push_of_some _ q) (Nat.le_refl _) (dk_empty s.heap I.big)
  refine wpAny_Dict_walk (knd := mixKind X.prog X.w) hall hl h0 h15 (thn (h pins _ σ _ _ I1 (q _ hn)) fun ws s2 ⟨ps, H2, I2, rel, e, kvs, ep, lk, q2⟩ => ?_)
  subst ep
  obtain ⟨rs, c, rk⟩ := carries_of (P := X.prog) (w := X.w) rel
  obtain ⟨z, hd, vs0, r0, dd⟩ := dk_of I2.hok e
  cases r0
  refine ⟨rs, c, dd, fun h' dd' hs => ⟨.ref s.heap.objs.size, _, ?_, rfl, q2⟩⟩
  have hz : (mergeK [] kvs).length ≤ sizeLine := by
    have h1 := length_mergeK kvs []
    rw [List.length_nil] at h1
    rw [sizeLine_eq]; omega
  have he : ∃ q, h'.get? s.heap.objs.size = some q := let ⟨q, _, _, hq, _⟩ := dd'; ⟨q, hq⟩
  exact d_write I2 (by rw [e]; exact True.intro) hs he (dk_new hz hd (rk.merge .nil) dd')


/-! ### methods -/
/-- a method call o.m(e) of a built-in, with one argument: what must be seen of the text -/
structure M1 (X : Cx) (o : Expr) (m : Str) (apos : Pos) (e : Expr) (cpos : Pos) : Prop where
  base : attributeBase o m X.env (eval o X.env) = eval o X.env
  few : ((backTo cpos (starEach [e] X.env)).all (fun x => !x.1) && (backToKw cpos (keywordEach [] X.env)).all (fun x => x.1.isSome)
    && decide (([e] : List Expr).length + ([] : List Keyword).length + (if ([] : List Keyword).isEmpty then 0 else 1) < 30)) = true
  line : (apos.endLine == cpos.line) = true
  trees : backTo cpos (starEach [e] X.env) = [(false, eval e X.env)]
structure M2 (X : Cx) (o : Expr) (m : Str) (apos : Pos) (e f : Expr) (cpos : Pos) : Prop where
  base : attributeBase o m X.env (eval o X.env) = eval o X.env
  few : ((backTo cpos (starEach [e, f] X.env)).all (fun x => !x.1) && (backToKw cpos (keywordEach [] X.env)).all (fun x => x.1.isSome)
    && decide (([e, f] : List Expr).length + ([] : List Keyword).length + (if ([] : List Keyword).isEmpty then 0 else 1) < 30)) = true
  line : (apos.endLine == cpos.line) = true
  trees : backTo cpos (starEach [e, f] X.env) = [(false, eval e X.env), (false, eval f X.env)]

/-- a is a dict, whatever its keys -/
def IsD (H : Hp) (a : Addr) : Prop := (∃ kvs, Rd H a (.dK kvs)) ∨ ∃ kvs, Rd H a (.dT kvs)
theorem isD_at {X : Cx} {pins : List (Addr × Obj)} {σ : St} {H : Hp} {s : Shared} {a : Addr} (I : Inv X pins σ H s) (d : IsD H a) :
    s.TypeIs (.ref a) "dict" ∧ (∀ b, Value.ref a = .ref b → ∃ ob, s.heap.get? b = some ob ∧ ob.dict = none) ∧ (a == sysModules) = false := by
  rcases d with ⟨kvs, e⟩ | ⟨kvs, e⟩
  · obtain ⟨_, hd, vs, _, dd⟩ := dk_rd I.hok e
    refine ⟨dd.typeIs, fun b q => ?_, hd⟩
    cases q
    obtain ⟨ob, _, _, h1, h2, _⟩ := dd
    exact ⟨ob, h1, h2.2.1⟩
  · obtain ⟨_, hd, xs, _, dd⟩ := dt_rd I.hok e
    refine ⟨dd.typeIs, fun b q => ?_, hd⟩
    cases q
    obtain ⟨ob, _, _, h1, h2, _⟩ := dd
    exact ⟨ob, h1, h2.2.1⟩

section
variable {X : Cx} {pins : List (Addr × Obj)} {σ : St} {H : Hp} {s : Shared} {a : Addr} {y d : V} {u r : Value} {o : Option V} {A : Around} {E : Value → Shared → Prop}
/-- d.get(y) -/
theorem d_get1 {Q : Value → Shared → Prop} (hu : A.units + 1 < cLine) (I : Inv X pins σ H s) (g : DGet H a y o) (ry : RelV y u) (h : ∀ w' s', Inv X pins σ H s' → RelV (o.getD .non) w' → Q w' s') :
    wpAny (model X.prog X.w) A (call (.builtin "dict.get") [.ref a, u]) Q E s := by
  rcases g with ⟨kvs, k, e, ey, l⟩ | ⟨kvs, k, b, e, ey, eb, l⟩
  · subst ey
    obtain ⟨z, hd, vs, rel, dd⟩ := dk_rd I.hok e
    refine call_meetsIn PySem.F.slot_dict_get dd.typeIs PySem.F.entry_dict_get (PySem.F.args_dict_get_2 _ _) (meets_dict_get (mixKind X.prog X.w) a (kV_is ry) hd) ⟨_, dd.mapOf, h _ _ (I.tok _) ?_⟩
    rw [l]
    exact (rel.val k).getD rfl
  · subst ey
    cases (show u = Value.ref b from ry)
    obtain ⟨z, hd, xs, rel, dd⟩ := dt_rd I.hok e
    refine call_meetsIn PySem.F.slot_dict_get dd.typeIs PySem.F.entry_dict_get (PySem.F.args_dict_get_2 _ _) (meetsH_dict_get (tupleKind (mixKind X.prog X.w)) a b hd) ⟨tupleKind_room_in1 hu, k, xs, key_of I.hok eb, dd, h _ _ (I.tok _) ?_⟩
    rw [l]
    exact (rel.val k).getD rfl
/-- d.get(y, x) -/
theorem d_get2 {Q : Value → Shared → Prop} (hu : A.units + 1 < cLine) (I : Inv X pins σ H s) (g : DGet H a y o) (ry : RelV y u) (rd : RelV d r) (h : ∀ w' s', Inv X pins σ H s' → RelV (o.getD d) w' → Q w' s') :
    wpAny (model X.prog X.w) A (call (.builtin "dict.get") [.ref a, u, r]) Q E s := by
  rcases g with ⟨kvs, k, e, ey, l⟩ | ⟨kvs, k, b, e, ey, eb, l⟩
  · subst ey
    obtain ⟨z, hd, vs, rel, dd⟩ := dk_rd I.hok e
    refine call_meetsIn PySem.F.slot_dict_get dd.typeIs PySem.F.entry_dict_get (PySem.F.args_dict_get_3 _ _ _) (meets_dict_get_default (mixKind X.prog X.w) a (kV_is ry) hd r) ⟨_, dd.mapOf, h _ _ (I.tok _) ?_⟩
    rw [l]
    exact (rel.val k).getD rd
  · subst ey
    cases (show u = Value.ref b from ry)
    obtain ⟨z, hd, xs, rel, dd⟩ := dt_rd I.hok e
    refine call_meetsIn PySem.F.slot_dict_get dd.typeIs PySem.F.entry_dict_get (PySem.F.args_dict_get_3 _ _ _) (meetsH_dict_get_default (tupleKind (mixKind X.prog X.w)) a b hd r) ⟨tupleKind_room_in1 hu, k, xs, key_of I.hok eb, dd, h _ _ (I.tok _) ?_⟩
    rw [l]
    exact (rel.val k).getD rd
end

def tDGet1 (td ty : TE) : TE := fun σ H Q => td σ H fun x H1 => ∃ a, x = .ref a ∧ IsD H1 a ∧ ty σ H1 fun y H2 => ∃ o, DGet H2 a y o ∧ Q (o.getD .non) H2
def tDGet2 (td ty tx : TE) : TE := fun σ H Q => td σ H fun x H1 => ∃ a, x = .ref a ∧ IsD H1 a ∧ ty σ H1 fun y H2 => tx σ H2 fun z H3 => ∃ o, DGet H3 a y o ∧ Q (o.getD z) H3
/-- d.pop(k): there; d.pop(k, x): there or not -/
def tDPop1 (td ty : TE) : TE := fun σ H Q => td σ H fun x H1 => ∃ a, x = .ref a ∧ IsD H1 a ∧ ty σ H1 fun y H2 => ∃ kvs k v, H2 a = some (.dK kvs) ∧ y = kV k ∧ valV kvs k = some v ∧ Q v (upd H2 a (.dK (dropK kvs k)))
def tDPop2 (td ty tx : TE) : TE := fun σ H Q => td σ H fun x H1 => ∃ a, x = .ref a ∧ IsD H1 a ∧ ty σ H1 fun y H2 => tx σ H2 fun z H3 => ∃ kvs k, H3 a = some (.dK kvs) ∧ y = kV k ∧
  (∀ v, valV kvs k = some v → Q v (upd H3 a (.dK (dropK kvs k)))) ∧ (valV kvs k = none → Q z H3)
section
variable {X : Cx} {o e f : Expr} {apos cpos : Pos} {td ty tx : TE}
theorem pe_dget1 (hu : X.A.units + 1 < cLine) (ho : PE X o td) (he : PE X e ty) (m : M1 X o "get" apos e cpos) : PE X (.Call (.Attribute o "get" apos) [e] [] cpos) (tDGet1 td ty) := by
  intro pins s σ H Q I h
  refine wpAny_Call_method m.base m.few m.line PySem.F.plainAttrs_dict PySem.F.slot_dict_get PySem.F.type_dict_get (thn (ho pins s σ H _ I h) fun u s1 ⟨x, H1, I1, rx, a, ex, d, q1⟩ => ?_)
  subst ex
  obtain rfl : u = Value.ref a := rx
  obtain ⟨t1, t2, _⟩ := isD_at I1 d
  refine ⟨t1, t2, ?_⟩
  rw [m.trees]
  refine Calls.callWith_builtin rfl (Calls.evalArgs_plain (Calls.spliced_cons (thn (he pins s1 σ H1 _ I1 q1) fun iv s2 ⟨y, H2, I2, ry, ov, g, q2⟩ => Calls.spliced_nil ?_)))
  exact d_get1 hu I2 g ry fun w' s3 I3 rw' => ⟨_, H2, I3, rw', q2⟩
theorem pe_dget2 (hu : X.A.units + 1 < cLine) (ho : PE X o td) (he : PE X e ty) (hf : PE X f tx) (m : M2 X o "get" apos e f cpos) : PE X (.Call (.Attribute o "get" apos) [e, f] [] cpos) (tDGet2 td ty tx) := by
  intro pins s σ H Q I h
  refine wpAny_Call_method m.base m.few m.line PySem.F.plainAttrs_dict PySem.F.slot_dict_get PySem.F.type_dict_get (thn (ho pins s σ H _ I h) fun u s1 ⟨x, H1, I1, rx, a, ex, d, q1⟩ => ?_)
  subst ex
  obtain rfl : u = Value.ref a := rx
  obtain ⟨t1, t2, _⟩ := isD_at I1 d
  refine ⟨t1, t2, ?_⟩
  rw [m.trees]
  refine Calls.callWith_builtin rfl (Calls.evalArgs_plain (Calls.spliced_cons (thn (he pins s1 σ H1 _ I1 q1) fun iv s2 ⟨y, H2, I2, ry, q2⟩ =>
    Calls.spliced_cons (thn (hf pins s2 σ H2 _ I2 q2) fun fv s3 ⟨z, H3, I3, rz, ov, g, q3⟩ => Calls.spliced_nil ?_))))
  exact d_get2 hu I3 g ry rz fun w' s4 I4 rw' => ⟨_, H3, I4, rw', q3⟩
theorem pe_dpop1 (ho : PE X o td) (he : PE X e ty) (m : M1 X o "pop" apos e cpos) : PE X (.Call (.Attribute o "pop" apos) [e] [] cpos) (tDPop1 td ty) := by
  intro pins s σ H Q I h
  refine wpAny_Call_method m.base m.few m.line PySem.F.plainAttrs_dict PySem.F.slot_dict_pop PySem.F.type_dict_pop (thn (ho pins s σ H _ I h) fun u s1 ⟨x, H1, I1, rx, a, ex, d, q1⟩ => ?_)
  subst ex
  obtain rfl : u = Value.ref a := rx
  obtain ⟨t1, t2, _⟩ := isD_at I1 d
  refine ⟨t1, t2, ?_⟩
  rw [m.trees]
  refine Calls.callWith_builtin rfl (Calls.evalArgs_plain (Calls.spliced_cons (thn (he pins s1 σ H1 _ I1 q1) fun iv s2 ⟨y, H2, I2, ry, kvs, k, v, ea, ey, l, q2⟩ => Calls.spliced_nil ?_)))
  subst ey
  exact d_pop I2 ea ry l (.inl rfl) fun w' s3 I3 rw' => ⟨v, _, I3, rw', q2⟩
theorem pe_dpop2 (ho : PE X o td) (he : PE X e ty) (hf : PE X f tx) (m : M2 X o "pop" apos e f cpos) : PE X (.Call (.Attribute o "pop" apos) [e, f] [] cpos) (tDPop2 td ty tx) := by
  intro pins s σ H Q I h
  refine wpAny_Call_method m.base m.few m.line PySem.F.plainAttrs_dict PySem.F.slot_dict_pop PySem.F.type_dict_pop (thn (ho pins s σ H _ I h) fun u s1 ⟨x, H1, I1, rx, a, ex, d, q1⟩ => ?_)
  subst ex
  obtain rfl : u = Value.ref a := rx
  obtain ⟨t1, t2, _⟩ := isD_at I1 d
  refine ⟨t1, t2, ?_⟩
  rw [m.trees]
  refine Calls.callWith_builtin rfl (Calls.evalArgs_plain (Calls.spliced_cons (thn (he pins s1 σ H1 _ I1 q1) fun iv s2 ⟨y, H2, I2, ry, q2⟩ =>
    Calls.spliced_cons (thn (hf pins s2 σ H2 _ I2 q2) fun fv s3 ⟨z, H3, I3, rz, kvs, k, ea, ey, q3, q4⟩ => Calls.spliced_nil ?_))))
  subst ey
  cases l : valV kvs k with
  | some v => exact d_pop I3 ea ry l (.inr ⟨fv, rfl⟩) fun w' s4 I4 rw' => ⟨v, _, I4, rw', q3 v l⟩
  | none => exact d_popD I3 ea ry l fun s4 I4 => ⟨z, H3, I4, rz, q4 l⟩
end

/-! ### dict(d): a copy -/
section
variable {X : Cx} {pins : List (Addr × Obj)} {σ : St} {H : Hp} {s : Shared} {a : Addr} {kvs : List (Key × V)} {A : Around} {E : Value → Shared → Prop}
theorem d_copyOf {Q : Value → Shared → Prop} (I : Inv X pins σ H s) (e : Rd H a (.dK kvs)) (h : ∀ p s', H p = none → Inv X pins σ (upd H p (.dK kvs)) s' → Q (.ref p) s') : wpAny (model X.prog X.w) A (call (.type "dict") [.ref a]) Q E s := by
  obtain ⟨z, hd, vs, rel, dd⟩ := dk_rd I.hok e
  refine kt_call_dict hd dd (by rw [← rel.length]; exact z) fun h' dd' hs => ?_
  refine h _ _ (I.hok.fresh (Nat.le_refl _)) (I.laid (a := s.heap.objs.size) (o := .dK kvs) (t' := s.toks) (fun b q hq => ?_) (Nat.le_refl _) (dk_new z (beq_eq_false_iff_ne.mpr (Ne.symm (Nat.ne_of_lt I.big))) rel dd'))
  exact (hs.2 b (Nat.ne_of_lt (Heap.lt_size hq))).trans (Heap.get?_push_of_some _ hq)
end


section
variable {X : Cx} {pins : List (Addr × Obj)} {σ : St} {H : Hp} {s : Shared} {a : Addr} {y : V} {u : Value} {A : Around} {E : Value → Shared → Prop}
/-- d[y], not there: a KeyError -/
theorem d_missing {Q : Value → Shared → Prop} (hu : A.units + 1 < cLine) (hh : A.handled = none) (I : Inv X pins σ H s) (g : DGet H a y none) (ry : RelV y u)
    (h : ∀ h' e t', Heap.NewExc s.heap h' e "KeyError" → E (.ref e) { s with heap := h', toks := t' }) : wpAny (model X.prog X.w) A (getItem (.ref a) u) Q E s := by
  rcases g with ⟨kvs, k, e, ey, l⟩ | ⟨kvs, k, b, e, ey, eb, l⟩
  · subst ey
    obtain ⟨z, hd, vs, rel, dd⟩ := dk_rd I.hok e
    have hn : valueAt vs k = none := RelO.none_of (by rw [l]; exact rel.val k)
    exact wpAny_getItem_missing_of (kV_is ry) hd hh dd.mapOf hn fun h' ex ne => h h' ex _ ne
  · subst ey
    cases (show u = Value.ref b from ry)
    obtain ⟨z, hd, xs, rel, dd⟩ := dt_rd I.hok e
    have hn : (atKey xs k).map (·.2) = none := RelO.none_of (by rw [l]; exact rel.val k)
    exact wpAny_getItem_missing_heap (tupleKind_room_in1 hu) (key_of I.hok eb) hd hh dd (Option.map_eq_none_iff.mp hn) fun h' ex ne => h h' ex _ ne
end
end L2

namespace L2
open PySem PySem.Spec PyProof.Rows

theorem list_keys_none : typeLookup (.type "list") "keys" = pure none := am_miss_of_fast (by first | decide +kernel | rfl)
theorem ud_entry : entryFor table "dict.update.loop" = some Builtin.«dict.update.loop» := entryFor_of_tree (by kernel_rfl)
theorem ud_plain : plainId "dict.update.loop" = true := by decide +kernel

section
variable {prog : Program} {w : World} {A : Around} {E : Value → Shared → Prop}
/-- a list has no attribute 'keys': an AttributeError is made, and forgotten -/
theorem miss_list {s : Shared} {a : Addr} {o : Obj} {xs : Array Value} {k : Nat} {Q : Option Value → Shared → Prop} (hx : s.heap.get? a = some o) (hc : o.cls = .type "list") (hdat : o.data = .seq xs k) (hd : o.dict = none) (hA : A.handled = none)
    (h : ∀ h' tk, (∀ b ob, s.heap.get? b = some ob → h'.get? b = some ob) → Q none { s with heap := h', toks := tk }) : wpAny (model prog w) A (getAttr? (.ref a) "keys") Q E s := by
  obtain ⟨c, dct, dat, sl⟩ := o
  simp only at hc hdat hd
  subst hc hdat hd
  obtain ⟨hp, g, d, tk, os⟩ := s
  have hT : ∀ tk', (⟨hp, g, d, tk', os⟩ : Shared).TypeIs (.ref a) "list" := fun _ => ⟨_, hx, rfl⟩
  have hmiss := list_keys_none
  have hname : (["__module__", "__name__", "__qualname__", "__doc__", "__annotations__"] : List Str).contains "keys" = false := by decide +kernel
  have hsz : ("keys" : Str).length + 100 ≤ sizeLine := by first | size_fits | decide +kernel
  have f1 := sub_AttributeError
  have f3 := PySem.F.slot_list_getattribute.lookup
  have f4 := PySem.F.slot_list_getattribute.bind (.ref a)
  have f5 := am_list_getattr_none
  unfold getAttr? getAttrBy? getAttrBy
  repeat (any_goals (first | assumption | exact hT _ | ((with_reducible show wpAny _ _ (call (Value.builtin "list.__getattribute__") _ _) _ _ _); refine call_meets PySem.F.slot_list_getattribute (hT _) am_entry_list_getattribute (PySem.F.args_list_getattribute_2 _ _) (meets_getattribute_miss_list a xs k sl "keys" _ hmiss hname hsz) ⟨hx, hA, fun h' tk' e hx' => ?_⟩) | wp_step))
  obtain ⟨t', u', he⟩ := hx'.there
  show wpAny _ _ (getattributeRaised _ _ _ _ _ _ _) _ _ _
  unfold getattributeRaised
  repeat (any_goals (first | assumption | wp_step))
  all_goals first | exact h _ _ hx'.keeps | (dsimp only; repeat (any_goals (first | assumption | exact h _ _ hx'.keeps | wp_step)))

/-- the walk over the pairs -/
theorem upd_loop {R : Result → Shared → Prop} {S I l : Addr} {items : Array Value} {res : Value} (hh : A.handled = none) (hlI : l ≠ I) (hSI : S ≠ I) (hSl : S ≠ l) :
    ∀ (rest : List (Key × Value)) (i : Nat) (acc : List (Key × Value)) (ix : Int) (t : Tok) (s : Shared), items.size = i + rest.length → acc.length + rest.length ≤ sizeLine →
      (∀ (j : Nat) (q : Key × Value), rest[j]? = some q → ∃ (b : Addr) (u : Value), items[i + j]? = some (.ref b) ∧ b ≠ S ∧ b ≠ I ∧ IsTup s.heap b #[u, q.2] ∧ keyIs q.1 u = true) →
      s.heap.IsListIter I l i → s.heap.IsList l items → s.heap.DictOf (mixKind prog w) S acc →
      (∀ h' tk, h'.DictOf (mixKind prog w) S (merged acc rest) → (∀ b o, b ≠ S → b ≠ I → s.heap.get? b = some o → h'.get? b = some o) → R (.ok (.ret res)) { s with heap := h', toks := tk }) →
      codeAny (model prog w) A (.builtin "dict.update.loop" ⟨[.ref S, .ref I, .int ix t, res], []⟩) R s
  | [], i, acc, ix, t, s, hsz, hln, ht, hit, hl, hm, hR => by
    refine codeAny_builtin ud_entry ?_
    rw [Around.under_plainId ud_plain _]
    show wpAny _ A.in1 (pyNext (.ref I) >>= _) _ _ s
    refine wpAny_bind (wpAny_pyNext_list_end (A := A.in1) hh hit hl (by first | exact Array.getElem?_eq_none (Nat.le_of_eq hsz) | (simp at hsz; simp; omega)) fun h' he => ?_)
    show wpAny _ A.in1 (Builtin.Dict.addKeywords S [] >>= _) _ _ _
    refine wpAny_bind (wpAny_pure (wpAny_pure ?_))
    exact hR h' s.toks (hm.extBut he hSI) fun b o _ hb e => he b o hb e
  | q :: rest, i, acc, ix, t, s, hsz, hln, ht, hit, hl, hm, hR => by
    obtain ⟨b, u, hb, hbS, hbI, htup, hk⟩ := ht 0 q rfl
    rw [List.length_cons] at hsz hln
    refine codeAny_builtin ud_entry ?_
    rw [Around.under_plainId ud_plain _]
    show wpAny _ A.in1 (pyNext (.ref I) >>= _) _ _ s
    refine wpAny_bind (wpAny_pyNext_list_item (x := .ref b) hit hl (by simpa using hb) fun h1 hit1 hs1 => ?_)
    have ht1 : IsTup h1 b #[u, q.2] := htup.extBut hs1.extBut hbI
    have hl1 : h1.IsList l items := hl.extBut hs1.extBut hlI
    have hm1 : h1.DictOf (mixKind prog w) S acc := hm.extBut hs1.extBut hSI
    obtain ⟨o, ho, hc, n, hd⟩ := id ht1
    show wpAny _ A.in1 (holding [Value.ref b] _ >>= _) _ _ _
    refine wpAny_bind (wpAny_holding ?_)
    refine wpAny_bind (wpAny_tryCatch ?_)
    unfold Builtin.Dict.pairItems
    refine wpAny_bind (wpAny_typeOf (T := "tuple") ⟨o, ho, hc⟩ ?_)
    rw [if_pos (by first | decide | rfl | simp)]
    refine wpAny_bind (wpAny_seqItems ho hd (wpAny_pure ?_))
    show wpAny _ A.in1 (holding [u, q.2] (dictSet S u q.2)) _ _ _
    refine wpAny_holding (wpAny_dictSet_pairs (knd := mixKind prog w) (k := q.1) hk hm1 (fun h2 hm2 hs2 => ?_) (by omega))
    refine wpAny_pure ⟨plainId_quiet ud_plain _, upd_loop (items := items) hh hlI hSI hSl rest (i + 1) (stored acc q.1 q.2) (ix + 1) 0 _ (show items.size = i + 1 + rest.length by omega) ?_ (fun j q' e => ?_) ?_ ?_ hm2 fun h' tk hd' k => ?_⟩
    · have z := stored_length_le acc q.1 q.2
      omega
    · obtain ⟨b', u', hb', hbS', hbI', htup', hk'⟩ := ht (j + 1) q' (by simpa using e)
      refine ⟨b', u', ?_, hbS', hbI', (htup'.extBut hs1.extBut hbI').extBut hs2.extBut hbS', hk'⟩
      rw [show i + 1 + j = i + (j + 1) by omega]
      exact hb'
    · exact hit1.at fun o' e => hs2.extBut I o' (Ne.symm hSI) e
    · exact hl1.extBut hs2.extBut (Ne.symm hSl)
    · exact hR h' tk hd' fun c oc h3 h4 e => k c oc h3 h4 (hs2.extBut c oc h3 (hs1.extBut c oc h4 e))

/-- dict(l) of a list of pairs -/
theorem call_dict_pairs {s : Shared} {l : Addr} {ol : Obj} {items : Array Value} {n : Nat} {prs : List (Key × Value)} {Q : Value → Shared → Prop} (hh : A.handled = none) (hl : s.heap.get? l = some ol) (hc : ol.cls = .type "list") (hd : ol.dict = none)
    (hdat : ol.data = .seq items n) (hsz : items.size = prs.length) (hln : prs.length ≤ sizeLine)
    (ht : ∀ (j : Nat) (q : Key × Value), prs[j]? = some q → ∃ (b : Addr) (u : Value), items[j]? = some (.ref b) ∧ IsTup s.heap b #[u, q.2] ∧ keyIs q.1 u = true)
    (h : ∀ h' tk, h'.DictOf (mixKind prog w) s.heap.objs.size (merged [] prs) → (∀ b o, s.heap.get? b = some o → h'.get? b = some o) → Q (.ref s.heap.objs.size) { s with heap := h', toks := tk }) :
    wpAny (model prog w) A (call (.type "dict") [.ref l]) Q E s := by
  refine callType_codes (Q₁ := fun obj s₁ => obj = .ref s.heap.objs.size ∧ s₁ = { s with heap := s.heap.push { cls := .type "dict", data := .dict #[] } }) PySem.F.kt_called_dict (PySem.F.kt_typeCall_dict_1 _) PySem.F.entry_dict_init (kt_code_dict_new _ ⟨rfl, rfl⟩) ?_
  rintro obj s₁ ⟨rfl, rfl⟩
  have hnew : (s.heap.push { cls := .type "dict", data := .dict #[] }).DictOf (mixKind prog w) s.heap.objs.size [] := Heap.DictOf.new s.heap
  have k0 : ∀ b o, s.heap.get? b = some o → (s.heap.push { cls := .type "dict", data := .dict #[] }).get? b = some o := fun b o e => Heap.get?_push_of_some _ e
  refine ⟨hnew.typeIs, PySem.F.args_dict_init_2 _ _, ?_⟩
  unfold Builtin.«dict.__init__»
  refine wpAny_bind ?_
  unfold Builtin.Dict.selfAndRest
  refine wpAny_bind (wpAny_notOrdered_dict hnew.typeIs ?_)
  show wpAny _ _ (pure (s.heap.objs.size, [Value.ref l])) _ _ _
  refine wpAny_pure ?_
  show wpAny _ _ (Builtin.Dict.updateFrom "dict.__init__" s.heap.objs.size (.ref l) [] .none) _ _ _
  unfold Builtin.Dict.updateFrom
  refine wpAny_bind (wpAny_typeOf (T := "list") ⟨ol, k0 _ _ hl, hc⟩ ?_)
  rw [if_pos (by first | decide | rfl | simp)]
  refine wpAny_bind (miss_list (k0 _ _ hl) hc hdat hd hh fun h1 tk1 hk1 => ?_)
  rw [if_pos (show (none : Option Value).isNone = true from rfl)]
  refine wpAny_bind (wpAny_rule ?_)
  have hl1 : h1.IsList l items := ⟨ol, hk1 _ _ (k0 _ _ hl), hc, n, hdat⟩
  have hS1 : s.heap.objs.size < h1.objs.size := by
    have e : (s.heap.push { cls := .type "dict", data := .dict #[] }).get? s.heap.objs.size = some { cls := .type "dict", data := .dict #[] } := Heap.get?_push_size _ rfl
    exact Heap.lt_size (hk1 _ _ e)
  refine wpAny_bind (wpAny_pyIter_list hl1 ?_)
  have k2 : ∀ b o, h1.get? b = some o → (h1.push { cls := .type "list_iterator", data := .fields #[.ref l, .int 0 0] }).get? b = some o := fun b o e => Heap.get?_push_of_some _ e
  have hlt : l < s.heap.objs.size := Heap.lt_size hl
  have key := upd_loop (prog := prog) (w := w) (A := A.in1) (R := wants (fun r s₂ => r = .none ∧ Q (.ref s.heap.objs.size) s₂) E) (S := s.heap.objs.size) (I := h1.objs.size) (l := l) (items := items) (res := Value.none) hh
    (Nat.ne_of_lt (Nat.lt_trans hlt hS1)) (Nat.ne_of_lt hS1) (Nat.ne_of_gt hlt) prs 0 [] 0 0
    { s with heap := h1.push { cls := .type "list_iterator", data := .fields #[.ref l, .int 0 0] }, toks := tk1 } (by rw [hsz, Nat.zero_add]) (by rw [List.length_nil, Nat.zero_add]; exact hln)
    (fun j q e => by
      obtain ⟨b, u, e1, e2, e3⟩ := ht j q e
      have hb : b < s.heap.objs.size := e2.lt
      exact ⟨b, u, by rw [Nat.zero_add]; exact e1, Nat.ne_of_lt hb, Nat.ne_of_lt (Nat.lt_trans hb hS1), e2.keeps fun c o z => k2 _ _ (hk1 _ _ (k0 _ _ z)), e3⟩)
    ⟨_, Heap.get?_push_size _ rfl, rfl, rfl⟩ (hl1.at fun o e => k2 _ _ e) ((hnew.at fun o e => hk1 _ _ e).at fun o e => k2 _ _ e)
    (fun h' tk hd' k => ⟨rfl, h h' tk hd' fun b o e => k b o (Nat.ne_of_lt (Heap.lt_size e)) (Nat.ne_of_lt (Nat.lt_trans (Heap.lt_size e) hS1)) (k2 _ _ (hk1 _ _ (k0 _ _ e)))⟩)
  first
    | exact wpAny_pure ⟨plainId_quiet ud_plain _, key⟩
    | exact wpAny_bind (wpAny_pure (wpAny_pure ⟨plainId_quiet ud_plain _, key⟩))
end

section
variable {X : Cx}
theorem pairs_of {pins : List (Addr × Obj)} {σ : St} {H : Hp} {s : Shared} (I : Inv X pins σ H s) : ∀ {ps : List Addr} {kvs : List (Key × V)}, Paired (fun p kv => SqT X.K H p [kV kv.1, kv.2]) ps kvs →
    ∃ prs : List (Key × Value), KV kvs prs ∧ prs.length = ps.length ∧ ∀ (j : Nat) (q : Key × Value), prs[j]? = some q → ∃ (b : Addr) (u : Value), ps[j]? = some b ∧ IsTup s.heap b #[u, q.2] ∧ keyIs q.1 u = true
  | _, _, .nil => ⟨[], .nil, rfl, fun j q e => by simp at e⟩
  | _, _, .cons (a := p) (b := kv) h t => by
    obtain ⟨prs, r, hl, hp⟩ := pairs_of I t
    obtain ⟨its, rv, ht, _⟩ := I.tuple h
    obtain ⟨u, y, ei, ru, ry⟩ := vals2 rv
    subst ei
    refine ⟨(kv.1, y) :: prs, .cons ⟨rfl, ry⟩ r, by rw [List.length_cons, List.length_cons, hl], fun j q e => ?_⟩
    cases j with
    | zero =>
      have e' : (kv.1, y) = q := Option.some.inj e
      subst e'
      exact ⟨p, u, rfl, ht, kV_is (P := X.prog) (w := X.w) ru⟩
    | succ j =>
      obtain ⟨b, u', e1, e2, e3⟩ := hp j q (by simpa using e)
      exact ⟨b, u', by simpa using e1, e2, e3⟩
theorem refs_at : ∀ {ps : List Addr} {us : List Value}, Vals (ps.map V.ref) us → us = ps.map Value.ref
  | [], us, r => by
    rw [List.map_nil] at r
    cases r
    rfl
  | p :: ps, us, r => by
    rw [List.map_cons] at r
    cases r with
    | cons h t =>
      cases h
      rw [List.map_cons, ← refs_at t]
/-- dict(xs) of a list of pairs (key, value): later pairs win, the place is the first one's -/
theorem call_dictP (hcalm : X.calm = true) : CallR X (.type "dict") (fun xs H Q => ∃ (a : Addr) (ps : List Addr) (kvs : List (Key × V)), xs = [.ref a] ∧ SqL X.K H a (ps.map V.ref) ∧ Paired (fun p kv => SqT X.K H p [kV kv.1, kv.2]) ps kvs ∧
    ∀ p, H p = none → Q (.ref p) (upd H p (.dK (mergeK [] kvs)))) := by
  intro pins s σ H xs us Q I r q
  obtain ⟨a, ps, kvs, ex, hq, hp, q⟩ := q
  subst ex
  obtain ⟨u, eu, rx⟩ := vals1 r
  subst eu
  cases rx
  obtain ⟨its, rv, pl, hz⟩ := I.list hq
  have ei := refs_at rv
  subst ei
  rw [List.length_map] at hz
  obtain ⟨prs, rel, hl, hpr⟩ := pairs_of I hp
  obtain ⟨o, n, ho, hc, hd, hdat⟩ := pl
  refine call_dict_pairs (prs := prs) (I.ok.hd hcalm) ho hc hd hdat (by simp [hl]) (by rw [hl]; exact hz) (fun j q' e => ?_) fun h' tk hd' k => ?_
  · obtain ⟨b, u, e1, e2, e3⟩ := hpr j q' e
    exact ⟨b, u, by simp [e1], e2, e3⟩
  · have hm : (s.heap.objs.size == sysModules) = false := beq_eq_false_iff_ne.mpr (Nat.ne_of_gt I.big)
    have hlen : (mergeK [] kvs).length ≤ sizeLine := by
      refine Nat.le_trans (length_mergeK kvs []) ?_
      rw [List.length_nil, Nat.zero_add, rel.length, hl]
      exact hz
    exact ⟨.ref s.heap.objs.size, upd H s.heap.objs.size (.dK (mergeK [] kvs)), I.laid (t' := tk) k (Nat.le_refl _) (show ObjOk X.prog X.w _ _ _ (.dK (mergeK [] kvs)) from ⟨hlen, hm, merged [] prs, KV.merge rel .nil, hd'⟩), rfl, q _ (I.hok.fresh (Nat.le_refl _))⟩
end
end L2

namespace L2
open PySem PySem.Spec PyProof.Rows

theorem boot_reversed5 : bootBuiltins "reversed" = some (.type "reversed") := by decide +kernel

section
variable {X : Cx} {pins : List (Addr × Obj)} {σ : St} {H : Hp} {s : Shared} {h' : Heap}
/-- several records of ours have turned -/
theorem Inv.turnedL {t' : Nat} {ch : List Addr} (I : Inv X pins σ H s) (k : ∀ b o, b ∉ ch → s.heap.get? b = some o → h'.get? b = some o) (hf : ∀ b ∈ ch, FpOk X pins H b) : Inv X pins σ H { s with heap := h', toks := t' } := by
  have nit : ∀ b u, H b = some u → b ∉ ch := fun b u e z => by
    have q := (hf b z).1
    rw [q] at e; cases e
  refine I.step (g' := s.gens) (d' := s.drawn) (ch := ch) (fun b hb => ⟨(hf b hb).2.2.2.1, (hf b hb).2.1, (hf b hb).2.2.2.2.1, (hf b hb).2.2.2.2.2⟩) (fun b o _ _ hc e _ => k b o hc e) (fun b o _ _ hc e _ => ⟨o.slots, k b o hc e⟩)
    (fun _ _ _ _ n => n) (fun b o hc e => ⟨o, k b o hc e⟩) (fun _ _ e => e) (fun _ _ _ e => e) (fun b ps e => ⟨#[], by rw [e]; simp⟩) (fun m hm => ?_) (fun b u e => ?_) I.bare
  · obtain ⟨o, es, ep, ho, r⟩ := hm
    exact ⟨o, es, ep, k _ o (fun z => (hf _ z).2.1 rfl) ho, r⟩
  · refine (I.hok b u e).stay (fun c v hc q => k c v ?_ q) (fun _ q => q) fun _ _ q => q
    rcases hc with z | z
    · rw [z]; exact nit b u e
    · exact nit c _ z
/-- .. and one new object is laid -/
theorem Inv.turnedNew {t' : Nat} {ch : List Addr} {T : Addr} {ob : HO} (I : Inv X pins σ H s) (k : ∀ b o, b ∉ ch → s.heap.get? b = some o → h'.get? b = some o) (hf : ∀ b ∈ ch, FpOk X pins H b) (hT : s.heap.objs.size ≤ T)
    (new : ObjOk X.prog X.w (upd H T ob) h' T ob) : Inv X pins σ (upd H T ob) { s with heap := h', toks := t' } := by
  have hn : H T = none := I.hok.fresh hT
  have nit : ∀ b u, H b = some u → b ∉ ch := fun b u e z => by
    have q := (hf b z).1
    rw [q] at e; cases e
  refine I.step (g' := s.gens) (d' := s.drawn) (ch := ch) (fun b hb => ⟨(hf b hb).2.2.2.1, (hf b hb).2.1, (hf b hb).2.2.2.2.1, (hf b hb).2.2.2.2.2⟩) (fun b o _ _ hc e _ => k b o hc e) (fun b o _ _ hc e _ => ⟨o.slots, k b o hc e⟩)
    (fun b o _ e n => ?_) (fun b o hc e => ⟨o, k b o hc e⟩) (fun b xs e => ?_) (fun b o u e => ?_) (fun b ps e => ⟨#[], ?_⟩) (fun m hm => ?_) (fun b u e => ?_) I.bare
  · rw [upd_ne (Nat.ne_of_lt (Nat.lt_of_lt_of_le (Heap.lt_size e) hT))]; exact n
  · rw [upd_ne (ne_of_none e hn)]; exact e
  · rw [upd_ne (ne_of_none e hn)]; exact e
  · rw [upd_ne (ne_of_none e hn), e]; simp
  · obtain ⟨o, es, ep, ho, r⟩ := hm
    exact ⟨o, es, ep, k _ o (fun z => (hf _ z).2.1 rfl) ho, r⟩
  · by_cases hb : b = T
    · subst hb
      rw [upd_same] at e
      cases e
      exact new
    · rw [upd_ne hb] at e
      refine (I.hok b u e).stay (fun c v hc q => k c v ?_ q) (fun c q => by rw [upd_ne (ne_of_none q hn)]; exact q) fun c xs q => by rw [upd_ne (ne_of_none q hn)]; exact q
      rcases hc with z | z
      · rw [z]; exact nit b u e
      · exact nit c _ z

/-! ### locking a thing while a statement runs -/
theorem Inv.lock {d : Addr} {u : HO} (I : Inv X pins σ H s) (h : H d = some u) (mu : Mut (some u)) : ∃ od, Inv X pins σ (upd H d (.frz od u)) s := by
  have x := I.hok d u h
  have ex : ∃ od, s.heap.get? d = some od := by
    cases u with
    | lst xs => obtain ⟨_, _, _, _, e⟩ := x; exact ⟨_, e⟩
    | dK kvs => obtain ⟨_, _, _, _, o, _, _, e, _⟩ := x; exact ⟨o, e⟩
    | dT kvs => obtain ⟨_, _, _, _, o, _, _, e, _⟩ := x; exact ⟨o, e⟩
    | set S n => obtain ⟨o, _, _, _, e, _⟩ := x; exact ⟨o, e⟩
    | ins C dx fs => obtain ⟨_, _, _, e, _⟩ := x; exact ⟨_, e⟩
    | ext φ => obtain ⟨_, ⟨_, e⟩, _⟩ := x; exact ⟨_, e⟩
    | _ => exact False.elim mu
  obtain ⟨od, e⟩ := ex
  have new : ObjOk X.prog X.w (upd H d (.frz od u)) s.heap d (.frz od u) := by
    refine ⟨e, x.stay (fun b v _ q => q) (fun b q => ?_) fun b xs q => ?_⟩
    · rw [upd_ne (fun z => by rw [z, h] at q; cases q; exact mu)]; exact q
    · rw [upd_ne (fun z => by rw [z, h] at q; cases q; exact mu)]; exact q
  exact ⟨od, I.write (x := d) (e := d) (t' := s.toks) (h' := s.heap) (by rw [h]; exact mu) (.inl rfl) (fun b v _ q => q) ⟨od, e⟩ new⟩
theorem Inv.nofrz {d : Addr} {u : HO} (I : Inv X pins σ H s) (h : H d = some u) (mu : Mut (some u)) : ∀ o' u', X.H_0 d ≠ some (.frz o' u') := fun o' u' e => by
  have q := I.base.frzs d o' u' e
  rw [h] at q
  cases q
  exact mu
theorem Inv.unlock {d : Addr} {od : Obj} {u : HO} (I : Inv X pins σ H s) (h : H d = some (.frz od u)) (hn : ∀ o' u', X.H_0 d ≠ some (.frz o' u')) : Inv X pins σ (upd H d u) s := by
  have neH : ∀ b o, H b = some o → (∀ o' u', o ≠ .frz o' u') → b ≠ d := fun b o e hne z => by
    rw [z, h] at e
    cases e
    exact hne _ _ rfl
  have neN : ∀ b, H b = none → b ≠ d := fun b e z => by rw [z, h] at e; cases e
  refine ⟨I.ok, I.os, I.bare, ⟨I.base.keep, I.base.slot, fun b o e n hx => ?_, I.base.there, fun b xs e => ?_, fun b o x e => ?_, fun b ps e => ?_⟩, I.loc, I.cell, ?_, fun x c e => ?_, fun p hp => ?_, fun b o e => ?_, I.len⟩
  · rw [upd_ne (neN b (I.base.free b o e n hx))]; exact I.base.free b o e n hx
  · have q := I.base.tups b xs e
    rw [upd_ne (neH b _ q (fun _ _ z => nomatch z))]; exact q
  · have q := I.base.frzs b o x e
    rw [upd_ne (fun z => by rw [z] at e; exact hn _ _ e)]; exact q
  · obtain ⟨m, q⟩ := I.base.tbls b ps e
    exact ⟨m, by rw [upd_ne (neH b _ q (fun _ _ z => nomatch z))]; exact q⟩
  · rw [upd_ne (neN _ I.free)]; exact I.free
  · rw [upd_ne (neN c (I.freeC x c e))]; exact I.freeC x c e
  · obtain ⟨e, n, r⟩ := I.pin p hp
    exact ⟨e, by rw [upd_ne (neN _ n)]; exact n, r⟩
  · by_cases hb : b = d
    · rw [hb, upd_same] at e
      cases e
      rw [hb]
      obtain ⟨_, x⟩ := I.hok d _ h
      exact x.stay (fun c v _ q => q) (fun c q => by rw [upd_ne (neH c _ q (fun _ _ z => nomatch z))]; exact q) fun c xs q => by rw [upd_ne (neH c _ q (fun _ _ z => nomatch z))]; exact q
    · rw [upd_ne hb] at e
      exact (I.hok b o e).stay (fun c v _ q => q) (fun c q => by rw [upd_ne (neH c _ q (fun _ _ z => nomatch z))]; exact q) fun c xs q => by rw [upd_ne (neH c _ q (fun _ _ z => nomatch z))]; exact q
end
/-- the statement runs while the thing at d is locked (read, not written); d and what stands there are the reading's choice -/
def tLock (t : TS) : TS := fun D σ H => ∃ d u, H d = some u ∧ Mut (some u) ∧ ∀ od, t ⟨fun σ' H' => H' d = some (.frz od u) ∧ D.nx σ' (upd H' d u), fun v H' => H' d = some (.frz od u) ∧ D.rt v (upd H' d u), fun σ' H' => H' d = some (.frz od u) ∧ D.bk σ' (upd H' d u), fun σ' H' => H' d = some (.frz od u) ∧ D.ct σ' (upd H' d u)⟩ σ (upd H d (.frz od u))
def tLockE (t : TE) : TE := fun σ H Q => ∃ d u, H d = some u ∧ Mut (some u) ∧ ∀ od, t σ (upd H d (.frz od u)) fun v H' => H' d = some (.frz od u) ∧ Q v (upd H' d u)
section
variable {X : Cx}
theorem ps_lock {st : Stmt} {t : TS} (h : PS X st t) : PS X st (tLock t) := by
  intro pins s σ H D I hw
  obtain ⟨d, u, hd, mu, hw⟩ := hw
  obtain ⟨od, I1⟩ := I.lock hd mu
  refine thn (h pins s σ _ _ I1 (hw od)) fun f s1 q => ?_
  cases f with
  | next => obtain ⟨σ', H', I2, e, q⟩ := q; exact ⟨σ', _, I2.unlock e (I.nofrz hd mu), q⟩
  | brk => obtain ⟨σ', H', I2, e, q⟩ := q; exact ⟨σ', _, I2.unlock e (I.nofrz hd mu), q⟩
  | cont => obtain ⟨σ', H', I2, e, q⟩ := q; exact ⟨σ', _, I2.unlock e (I.nofrz hd mu), q⟩
  | ret v => obtain ⟨x, σ', H', I2, r, e, q⟩ := q; exact ⟨x, σ', _, I2.unlock e (I.nofrz hd mu), r, q⟩
theorem pe_lock {e : Expr} {t : TE} (h : PE X e t) : PE X e (tLockE t) := by
  intro pins s σ H Q I hw
  obtain ⟨d, u, hd, mu, hw⟩ := hw
  obtain ⟨od, I1⟩ := I.lock hd mu
  refine thn (h pins s σ _ _ I1 (hw od)) fun v s1 ⟨x, H1, I2, r, e2, q⟩ => ?_
  exact ⟨x, _, I2.unlock e2 (I.nofrz hd mu), r, q⟩

/-! ### one iterator just laid -/
theorem pi_one {tg : Expr} {pins : List (Addr × Obj)} {σ : St} {H : Hp} {s : Shared} {R : It → Hp → Prop} {J : It} {tn : Nat → Heap → Prop} {tk : Nat} (I : Inv X pins σ H s) (o : Obj)
    (T : Turn X.prog X.w X.K tg J [s.heap.objs.size] s.heap.objs.size tn) (st : tn 0 (s.heap.push o)) (q : R J H) : PIE X pins σ tg R (.ref s.heap.objs.size) { s with heap := s.heap.push o, toks := tk } := by
  refine ⟨s.heap.objs.size, [s.heap.objs.size], tn, J, H, rfl, I.kept fun b ob e => Heap.get?_push_of_some _ e, T, st, fun b hb => ?_, q⟩
  have e : b = s.heap.objs.size := by simpa using hb
  subst e
  exact I.fpOk (Nat.le_refl _) (I.hok.fresh (Nat.le_refl _))
end

/-! ### range with a step -/
/-- lo, lo + c, .. (n of them) -/
def Itc (lo c : Int) (n : Nat) : It := ⟨fun i _ => i < n, fun i H x H' => H' = H ∧ x = .int (lo + (i : Nat) * c), fun i _ => n ≤ i⟩
theorem turn_rangeC {P : Program} {w : World} {K : PySem.W.Frag} {tg : Expr} (it : Addr) (lo c : Int) (n : Nat) : Turn P w K tg (Itc lo c n) [it] it (fun i h => IsRangeIter h it (lo + (i : Nat) * c) ((n : Int) - (i : Nat)) c) where
  mem := by simp
  obj := fun i h st b hb => by
    have e : b = it := by simpa using hb
    subst e
    exact ⟨_, st, fun v z => nomatch z⟩
  keep := fun i h h' st k => k it (by simp) _ st
  item := by
    intro X hP hw hK hc i pins s σ H E I hf st hg
    subst hP hw hK
    obtain ⟨f0, f1, f2, f3, f4, f5⟩ := hf it (by simp)
    have W := Walks.range (prog := X.prog) (w := X.w) (I.ok.hd hc) it lo c n
    refine W.item i s _ _ hg st fun v h' tk hv st' kk => ?_
    obtain ⟨t, rfl⟩ := hv
    have I1 : Inv X pins σ H { s with heap := h', toks := tk } := I.turned (fun b o hb e => kk b o (by simpa using hb) e) f0 f1 f3 f4 f5
    exact ⟨_, rfl, go_of (s := { s with heap := h', toks := tk }) (n := "range_iterator") st' rfl rfl (by decide) ⟨.int (lo + (i : Nat) * c), H, I1, ⟨t, rfl⟩, ⟨rfl, rfl⟩, st', fun b hb => (hf b hb).1⟩⟩
  done := by
    intro X hP hw hK hc i pins s σ H E I hf st hg
    subst hP hw hK
    obtain ⟨f0, f1, f2, f3, f4, f5⟩ := hf it (by simp)
    exact wpAny_pyNext_range_end (I.ok.hd hc) st (by have : n ≤ i := hg; omega) fun h' eb => ⟨rfl, I.turned (t' := s.toks) (fun b o hb e => eb b o hb e) f0 f1 f3 f4 f5⟩
  self := fun A i s Q E st h => wpAny_pyIter_rangeiter st h
/-- range(i, j, c): small bounds, n items -/
def RgC (i j c : Int) (n : Nat) : Prop := c ≠ 0 ∧ c.natAbs < 1073741824 ∧ Builtin.Range.small i j c = true ∧ Builtin.Range.rangeSize i j c = n
theorem RgC.neg {i j : Int} (ha : -(2 ^ 62) ≤ i) (ha' : i < 2 ^ 62) (hb : -(2 ^ 62) ≤ j) (hb' : j < 2 ^ 62) : RgC i j (-1) (i - j).toNat :=
  ⟨by decide, by decide, PySem.W.small_down ha ha' hb hb', PySem.W.rangeSize_downNat i j⟩
def iRng3 (ta : TA) : TI := fun σ H R => ta σ H fun vs H1 => ∃ (i j c : Int) (n : Nat), vs = [.int i, .int j, .int c] ∧ RgC i j c n ∧ R (Itc i c n) H1
section
variable {X : Cx} {tg : Expr}
theorem pi_range3 {a b c : Expr} {ta : TA} {p pos : Pos} (hg : Gl X "range") (hm : X.mg "range" = none) (ha : PA X [a, b, c] ta)
    (hs : starEach [a, b, c] X.env = (false, eval a X.env) :: starEach [b, c] X.env := by rfl) (hpl : (backTo pos (starEach [b, c] X.env)).any (·.1) = false := by rfl) :
    PI X tg (.Call (.Name "range" p) [a, b, c] [] pos) (iRng3 ta) := by
  intro pins s σ H R I h
  refine Call_ (ld_blt I hg hm boot_range (PyProof.Rows.callWith_type1 (thn (ha pos pins s σ H _ I h) fun us s1 ⟨vs, H1, I1, r1, q1⟩ => ?_) hs hpl))
  obtain ⟨i, j, k, n, e, ⟨c0, c1, c2, c3⟩, q⟩ := q1
  subst e
  cases r1 with
  | cons r rr =>
    cases rr with
    | cons r' rr =>
      cases rr with
      | cons r'' rr =>
        cases rr
        obtain ⟨t, rfl⟩ := r
        obtain ⟨t', rfl⟩ := r'
        obtain ⟨t'', rfl⟩ := r''
        refine call_range_3 c0 ?_ (.inl (PyProof.noPylong_small c1))
        refine wpAny_pyIter_range (IsRange.new ..) c2 ?_
        have I2 : Inv X pins σ H1 { s1 with heap := s1.heap.push { cls := .type "range", data := .fields #[.int i t, .int j t', .int k t''] } } := I1.kept (t' := s1.toks) fun b o e => Heap.get?_push_of_some _ e
        refine pi_one (tk := s1.toks) I2 _ (turn_rangeC _ i k n) ?_ q
        have e1 : i + ((0 : Nat) : Int) * k = i := by simp
        have e2 : (n : Int) - ((0 : Nat) : Int) = Builtin.Range.rangeSize i j k := by rw [c3]; simp
        show IsRangeIter _ _ (i + ((0 : Nat) : Int) * k) ((n : Int) - ((0 : Nat) : Int)) k
        rw [e1, e2]
        exact Heap.get?_push_size _ rfl
end
/-- the turns of a step range, for the for loop -/
theorem for_rangeC {lo c : Int} {n : Nat} {g : TG} {tb : TS} {D : Ends} {σ : St} {H : Hp} (Pv : Nat → St → Hp → Prop) (h0 : Pv 0 σ H)
    (hs : ∀ i σ H, i < n → Pv i σ H → g (.int (lo + (i : Nat) * c)) σ H fun σ2 H2 => tb { D with nx := Pv (i + 1), ct := Pv (i + 1), bk := D.nx } σ2 H2) (hd : ∀ σ H, Pv n σ H → D.nx σ H) :
    ∃ W : Nat → Nat → St → Hp → Prop, (∃ m, W 0 m σ H) ∧ ∀ i m σ H, W i m σ H →
      ((Itc lo c n).stop i H ∧ D.nx σ H) ∨ ((Itc lo c n).go i H ∧ ∃ N : St → Hp → Prop, (∀ σ' H', N σ' H' → ∃ m', m' < m ∧ W (i + 1) m' σ' H') ∧ ∀ x H', (Itc lo c n).yld i H x H' → g x σ H' fun σ2 H2 => tb { D with nx := N, ct := N, bk := D.nx } σ2 H2) := by
  refine ⟨fun i m σ H => m = n - i ∧ i ≤ n ∧ Pv i σ H, ⟨n, by simp, Nat.zero_le _, h0⟩, ?_⟩
  rintro i m σ H ⟨rfl, hi, p⟩
  by_cases hlt : i < n
  · refine .inr ⟨hlt, Pv (i + 1), fun σ' H' p' => ⟨n - (i + 1), by omega, rfl, hlt, p'⟩, fun x H' y => ?_⟩
    obtain ⟨e, y⟩ := y
    subst e y
    exact hs i σ _ hlt p
  · have e : i = n := by omega
    subst e
    exact .inl ⟨Nat.le_refl _, hd σ H p⟩

/-! ### reversed(list) -/
/-- the list at a (n items at the start, which the loop leaves there), from its end -/
def Itv (K : PySem.W.Frag) (a : Addr) (n : Nat) : It :=
  ⟨fun i H => i < n ∧ ∃ (xs : List V) (x : V), SqL K H a xs ∧ xs[n - 1 - i]? = some x, fun i H x H' => H' = H ∧ ∀ xs, SqL K H a xs → xs[n - 1 - i]? = some x, fun i _ => n ≤ i⟩
theorem turn_rev {P : Program} {w : World} {K : PySem.W.Frag} {tg : Expr} (a it : Addr) (n : Nat) : Turn P w K tg (Itv K a n) [it] it (fun i h => i ≤ n ∧ h.IsRevIter it a ((n : Int) - 1 - (i : Nat))) where
  mem := by simp
  obj := fun i h st b hb => by
    have e : b = it := by simpa using hb
    subst e
    obtain ⟨_, o, e, c, d⟩ := st
    exact ⟨o, e, fun v z => by rw [d] at z; cases z⟩
  keep := fun i h h' st k => ⟨st.1, st.2.at fun o e => k it (by simp) o e⟩
  item := by
    intro X hP hw hK hc i pins s σ H E I hf st hg
    subst hP hw hK
    obtain ⟨hin, xs, x, hq, hx⟩ := hg
    obtain ⟨its, rv, p, hz⟩ := I.list hq
    obtain ⟨u, hu, ru⟩ := rv.get hx
    obtain ⟨f0, f1, f2, f3, f4, f5⟩ := hf it (by simp)
    obtain ⟨_, hit⟩ := st
    have e1 : (n : Int) - 1 - ((i : Nat) : Int) = ((n - 1 - i : Nat) : Int) := by omega
    rw [e1] at hit
    refine wpAny_pyNext_rev_item hit p.isList (x := u) (by simpa using hu) fun h' st' sb => ?_
    have e2 : ((n - 1 - i : Nat) : Int) - 1 = (n : Int) - 1 - ((i + 1 : Nat) : Int) := by omega
    rw [e2] at st'
    have I1 : Inv X pins σ H { s with heap := h' } := I.turned (t' := s.toks) (fun b o hb e => (sb.2 b hb).trans e) f0 f1 f3 f4 f5
    obtain ⟨o, e, c, d⟩ := id st'
    exact ⟨u, rfl, go_of (s := { s with heap := h' }) e c d (by decide) ⟨x, H, I1, ru, ⟨rfl, fun ys hy => by rw [I.list_inj hy hq]; exact hx⟩, ⟨hin, st'⟩, fun b hb => (hf b hb).1⟩⟩
  done := by
    intro X hP hw hK hc i pins s σ H E I hf st hg
    subst hP hw hK
    obtain ⟨f0, f1, f2, f3, f4, f5⟩ := hf it (by simp)
    obtain ⟨hin, hit⟩ := st
    have hge : n ≤ i := hg
    have e1 : (n : Int) - 1 - ((i : Nat) : Int) = -1 := by omega
    rw [e1] at hit
    exact wpAny_pyNext_rev_end (I.ok.hd hc) hit fun h' eb => ⟨rfl, I.turned (t' := s.toks) (fun b o hb e => eb b o hb e) f0 f1 f3 f4 f5⟩
  self := fun A i s Q E st h => wpAny_pyIter_revIter st.2 h
def iRev (K : PySem.W.Frag) (ta : TA) : TI := fun σ H R => ta σ H fun vs H1 => ∃ (a : Addr) (xs : List V), vs = [.ref a] ∧ SqL K H1 a xs ∧ R (Itv K a xs.length) H1
section
variable {X : Cx} {tg : Expr}
theorem pi_reversed {e : Expr} {ta : TA} {p pos : Pos} (hg : Gl X "reversed") (hm : X.mg "reversed" = none) (ha : PA X [e] ta) (hs : starEach [e] X.env = [(false, eval e X.env)] := by rfl) : PI X tg (.Call (.Name "reversed" p) [e] [] pos) (iRev X.K ta) := by
  intro pins s σ H R I h
  refine Call_ (ld_blt I hg hm boot_reversed5 (PyProof.Rows.callWith_type1 (thn (ha pos pins s σ H _ I h) fun us s1 ⟨vs, H1, I1, r1, q1⟩ => ?_) hs rfl))
  obtain ⟨a, xs, e, hq, q⟩ := q1
  subst e
  cases r1 with
  | cons r rr =>
    cases rr
    cases r
    obtain ⟨its, rv, p', hz⟩ := I1.list hq
    have hl := rv.length
    have e1 : ((its.toArray.size : Nat) : Int) - 1 = (xs.length : Int) - 1 - ((0 : Nat) : Int) := by simp only [List.size_toArray]; omega
    refine call_reversed_list p'.isList (wpAny_pyIter_revIter (l := a) (i := ((its.toArray.size : Nat) : Int) - 1) ⟨_, Heap.get?_push_size _ rfl, rfl, rfl⟩ ?_)
    refine pi_one (tk := s1.toks) I1 _ (turn_rev a _ xs.length) ⟨Nat.zero_le _, ?_⟩ q
    rw [← e1]
    exact ⟨_, Heap.get?_push_size _ rfl, rfl, rfl⟩
end

/-! ### a str -/
def Its (x : Str) : It := ⟨fun i _ => i < x.cps.size, fun i H v H' => H' = H ∧ ∃ c, x.cps[i]? = some c ∧ v = .str ⟨#[c]⟩, fun i _ => x.cps.size ≤ i⟩
theorem turn_str {P : Program} {w : World} {K : PySem.W.Frag} {tg : Expr} (it : Addr) (x : Str) (t : Tok) (ty : String) (hty : ty = "str_ascii_iterator" ∨ ty = "str_iterator") :
    Turn P w K tg (Its x) [it] it (fun i h => h.IsStrIter it ty x t i) where
  mem := by simp
  obj := fun i h st b hb => by
    have e : b = it := by simpa using hb
    subst e
    obtain ⟨o, e, c, d⟩ := st
    exact ⟨o, e, fun v z => by rw [d] at z; cases z⟩
  keep := fun i h h' st k => let ⟨o, ho, r⟩ := st; ⟨o, k it (by simp) o ho, r⟩
  item := by
    intro X hP hw hK hc i pins s σ H E I hf st hg
    subst hP hw hK
    obtain ⟨f0, f1, f2, f3, f4, f5⟩ := hf it (by simp)
    have W : Walks X.prog X.w X.A it [it] [it] x.cps.size (SignAt x) (fun i h => h.IsStrIter it ty x t i) := by
      rcases hty with e | e
      · rw [e]; exact Walks.strAscii (I.ok.hd hc) it x t
      · rw [e]; exact Walks.strWide (I.ok.hd hc) it x t
    have hno : ["enumerate", "zip", "dict_itemiterator", "dict_reverseitemiterator", "odict_iterator", "itertools.zip_longest", "itertools.pairwise"].contains ty = false := by
      rcases hty with e | e
      · rw [e]; decide
      · rw [e]; decide
    refine W.item i s _ _ hg st fun v h' tk hv st' kk => ?_
    obtain ⟨c, u, hcx, rfl⟩ := hv
    have I1 : Inv X pins σ H { s with heap := h', toks := tk } := I.turned (fun b o hb e => kk b o (by simpa using hb) e) f0 f1 f3 f4 f5
    obtain ⟨oi, e, cc, dd⟩ := id st'
    exact ⟨_, rfl, go_of (s := { s with heap := h', toks := tk }) e cc dd hno ⟨.str ⟨#[c]⟩, H, I1, ⟨u, rfl⟩, ⟨rfl, c, hcx, rfl⟩, st', fun b hb => (hf b hb).1⟩⟩
  done := by
    intro X hP hw hK hc i pins s σ H E I hf st hg
    subst hP hw hK
    obtain ⟨f0, f1, f2, f3, f4, f5⟩ := hf it (by simp)
    have hx : x.cps[i]? = none := Array.getElem?_eq_none hg
    rcases hty with e | e
    · rw [e] at st
      exact wpAny_pyNext_ascii_end (I.ok.hd hc) st hx fun h' eb => ⟨rfl, I.turned (t' := s.toks) (fun b o hb e => eb b o hb e) f0 f1 f3 f4 f5⟩
    · rw [e] at st
      exact wpAny_pyNext_wide_end (I.ok.hd hc) st hx fun h' eb => ⟨rfl, I.turned (t' := s.toks) (fun b o hb e => eb b o hb e) f0 f1 f3 f4 f5⟩
  self := fun A i s Q E st h => by
    rcases hty with e | e
    · rw [e] at st; exact wpAny_pyIter_striter_ascii st h
    · rw [e] at st; exact wpAny_pyIter_striter_wide st h
def iStr (te : TE) : TI := fun σ H R => te σ H fun v H1 => ∃ x, v = .str x ∧ R (Its x) H1
theorem pi_str {X : Cx} {tg e : Expr} {te : TE} (he : PE X e te) : PI X tg e (iStr te) := by
  intro pins s σ H R I h
  refine thn (he pins s σ H _ I h) fun v s1 ⟨y, H1, I1, r1, x, ex, q⟩ => ?_
  subst ex
  obtain ⟨t, rfl⟩ := r1
  cases ha : x.cps.all (· < 128)
  · exact wpAny_pyIter_wide ha (pi_one (tk := s1.toks) I1 _ (turn_str _ x t "str_iterator" (.inr rfl)) ⟨_, Heap.get?_push_size _ rfl, rfl, rfl⟩ q)
  · exact wpAny_pyIter_ascii ha (pi_one (tk := s1.toks) I1 _ (turn_str _ x t "str_ascii_iterator" (.inl rfl)) ⟨_, Heap.get?_push_size _ rfl, rfl, rfl⟩ q)

/-! ### a dict's keys: any dict's entries -/
section
variable {prog : Program} {w : World} {A : Around} {E : Value → Shared → Prop} {s : Shared}
theorem iter_keys {d : Addr} {o : Obj} {es : Array DictEntry} {ep : Nat} {Q : Value → Shared → Prop} (hd : (d == sysModules) = false) (ho : s.heap.get? d = some o) (hc : o.ExactDict) (hdat : o.data = .dict es ep)
    (hQ : Q (.ref s.heap.objs.size) { s with heap := s.heap.push { cls := .type "dict_keyiterator", data := .fields #[.ref d, .int 0 0, .int es.size 0, .int ep 0] } }) :
    wpAny (model prog w) A (pyIter (.ref d)) Q E s := by
  have hT : s.TypeIs (.ref d) "dict" := ⟨o, ho, hc.1⟩
  refine wpAny_pyIter_slot hT F.slot_dict_iter (wpAny_call_entry F.slot_dict_iter hT F.entry_dict_iter ?_ (F.args_dict_iter_1 _))
  unfold Builtin.«dict.__iter__»
  refine wpAny_bind ?_
  unfold Builtin.Dict.dictSlotNone
  refine wpAny_bind (wpAny_notOrdered_dict hT ?_)
  show wpAny _ _ (pure (Value.ref d)) _ _ s
  refine wpAny_pure ?_
  show wpAny _ _ (Builtin.Dict.showsAll d >>= _) _ _ s
  unfold Builtin.Dict.showsAll
  rw [if_neg (by rw [hd]; exact Bool.false_ne_true)]
  refine wpAny_bind (wpAny_pure ?_)
  refine wpAny_bind (wpAny_dictEntries ho hdat ?_)
  refine wpAny_bind (wpAny_dictEpoch ho hdat ?_)
  refine wpAny_bind (wpAny_newObj_type (wpAny_pure ⟨_, rfl, "dict_keyiterator", _, ⟨_, Heap.get?_push_size _ rfl, rfl⟩, F.slot_dict_keyiterator_next.lookup, ?_⟩))
  simpa [rawInt] using hQ
theorem next_key_item {it d : Addr} {i n ep : Nat} {od : Obj} {es : Array DictEntry} {en : DictEntry} {Q : Option Value → Shared → Prop} (hit : s.heap.IsKeyIter it d i n ep) (hod : s.heap.get? d = some od) (hdd : od.data = .dict es ep)
    (hsz : es.size = n) (hx : es[i]? = some en) (hQ : ∀ h', h'.IsKeyIter it d (i + 1) n ep → Heap.SameBut it s.heap h' → Q (some en.key) { s with heap := h' }) : wpAny (model prog w) A (pyNext (.ref it)) Q E s := by
  obtain ⟨o, ho, hc, hd⟩ := id hit
  unfold pyNext
  refine wpAny_bind (wpAny_attempt (wpAny_callSpecial?_slot (name := Str.ofString "__next__") hit.typeIs F.slot_dict_keyiterator_next
    (wpAny_call_entry F.slot_dict_keyiterator_next hit.typeIs F.entry_dict_keyiterator_next ?_ (F.args_dict_keyiterator_next_1 _))))
  refine wpAny_bind (wpAny_pure ?_)
  refine wpAny_bind ?_
  refine wpAny_bind ?_
  first | refine wpAny_bind (wpAny_typeNameOfWhole_keyiter hit.typeIs (wpAny_pure ?_)) | refine wpAny_bind (wpAny_typeNameOf_keyiter hit.typeIs (wpAny_pure ?_))
  refine wpAny_bind (wpAny_fieldsOf ho hd ?_)
  have hown : Builtin.Dict_items.ownsTuple "dict_keyiterator" = false := by decide
  simp only [hown, Bool.false_eq_true, if_false]
  show wpAny _ _ (if (Value.ref d == Value.none) = true then _ else _) _ _ s
  rw [if_neg (show ¬ ((Value.ref d == Value.none) = true) from Bool.false_ne_true)]
  refine wpAny_bind (wpAny_pure ?_)
  refine wpAny_bind (wpAny_dictEntries hod hdd ?_)
  rw [if_neg (by rw [hsz]; simp)]
  refine wpAny_bind (wpAny_pure ?_)
  refine wpAny_bind (wpAny_dictEpoch hod hdd ?_)
  rw [if_neg (by simp)]
  refine wpAny_pure ?_
  obtain ⟨hlt', hen⟩ := Array.getElem?_eq_some_iff.mp hx
  simp only [show ¬ ((i : Int) < 0) from by omega, if_false, Int.toNat_natCast, Array.getElem?_eq_getElem hlt']
  refine wpAny_bind ?_
  first | refine wpAny_bind (wpAny_typeNameOfWhole_keyiter hit.typeIs (wpAny_pure ?_)) | refine wpAny_bind (wpAny_typeNameOf_keyiter hit.typeIs (wpAny_pure ?_))
  refine wpAny_bind (wpAny_isOneOf_keyiter hit.typeIs ?_)
  show wpAny _ _ (setField (.ref it) 1 (rawInt ((i : Int) + 1)) >>= _) _ _ s
  refine wpAny_bind (wpAny_setField ho hd (by simp) ?_)
  have hit' : (s.heap.update it (Obj.mapFields (·.setIfInBounds 1 (rawInt ((i : Int) + 1))))).IsKeyIter it d (i + 1) n ep :=
    ⟨_, Heap.get?_update_self _ ho (Obj.isFreed_of_fields (Obj.data_mapFields hd _)), (Obj.cls_mapFields ..).trans hc, by rw [Obj.data_mapFields hd]; simp [rawInt]⟩
  refine wpAny_bind (wpAny_holding ?_)
  refine wpAny_bind (wpAny_isOneOf_keyiter (s := { s with heap := s.heap.update it (Obj.mapFields (·.setIfInBounds 1 (rawInt ((i : Int) + 1)))) }) hit'.typeIs ?_)
  show wpAny _ _ (pure es[i].key) _ _ _
  rw [hen]
  exact wpAny_pure (wpAny_pure ⟨_, rfl, wpAny_pure (hQ _ hit' (Heap.SameBut.update ..))⟩)
theorem next_key_end {it d : Addr} {i n ep : Nat} {od : Obj} {es : Array DictEntry} {Q : Option Value → Shared → Prop} (hh : A.handled = none) (hit : s.heap.IsKeyIter it d i n ep) (hod : s.heap.get? d = some od) (hdd : od.data = .dict es ep)
    (hsz : es.size = n) (hge : n ≤ i) (hQ : ∀ h', Heap.ExtBut it s.heap h' → Q none { s with heap := h' }) : wpAny (model prog w) A (pyNext (.ref it)) Q E s := by
  obtain ⟨o, ho, hc, hd⟩ := id hit
  unfold pyNext
  refine wpAny_bind (wpAny_attempt (wpAny_callSpecial?_slot (name := Str.ofString "__next__") hit.typeIs F.slot_dict_keyiterator_next
    (wpAny_call_entry F.slot_dict_keyiterator_next hit.typeIs F.entry_dict_keyiterator_next ?_ (F.args_dict_keyiterator_next_1 _))))
  refine wpAny_bind (wpAny_pure ?_)
  refine wpAny_bind ?_
  refine wpAny_bind ?_
  first | refine wpAny_bind (wpAny_typeNameOfWhole_keyiter hit.typeIs (wpAny_pure ?_)) | refine wpAny_bind (wpAny_typeNameOf_keyiter hit.typeIs (wpAny_pure ?_))
  refine wpAny_bind (wpAny_fieldsOf ho hd ?_)
  have hown : Builtin.Dict_items.ownsTuple "dict_keyiterator" = false := by decide
  simp only [hown, Bool.false_eq_true, if_false]
  show wpAny _ _ (if (Value.ref d == Value.none) = true then _ else _) _ _ s
  rw [if_neg (show ¬ ((Value.ref d == Value.none) = true) from Bool.false_ne_true)]
  refine wpAny_bind (wpAny_pure ?_)
  refine wpAny_bind (wpAny_dictEntries hod hdd ?_)
  rw [if_neg (by rw [hsz]; simp)]
  refine wpAny_bind (wpAny_pure ?_)
  refine wpAny_bind (wpAny_dictEpoch hod hdd ?_)
  rw [if_neg (by simp)]
  refine wpAny_pure ?_
  have hge' : es.size ≤ i := by rw [hsz]; exact hge
  simp only [show ¬ ((i : Int) < 0) from by omega, if_false, Int.toNat_natCast, Array.getElem?_eq_none hge']
  refine wpAny_bind ?_
  first | refine wpAny_bind (wpAny_typeNameOfWhole_keyiter hit.typeIs (wpAny_pure ?_)) | refine wpAny_bind (wpAny_typeNameOf_keyiter hit.typeIs (wpAny_pure ?_))
  show wpAny _ _ (setField (.ref it) 0 .none >>= _) _ _ s
  refine wpAny_bind (wpAny_setField ho hd (by simp) ?_)
  show wpAny _ _ (newExc (.type "StopIteration") [] >>= _) _ _ _
  refine wpAny_bind ?_
  simp only [newExc, newTuple]
  refine wpAny_bind (wpAny_newObj_type ?_ (by size_fits))
  refine wpAny_bind (m := firstArgMember _ _) (wpAny_of_eq (a := Value.none) (by first | rfl | (simp only [firstArgMember]; rfl)) ?_)
  refine wpAny_newObj_type ?_ (by size_fits)
  simp only [raiseNew]
  refine wpAny_bind (wpAny_handled ?_)
  rw [show A.in1.handled = none from hh]
  refine wpAny_bind (wpAny_pure (wpAny_throw ?_))
  refine wpAny_bind (wpAny_isInstance (T := "StopIteration") (b := true) ⟨_, Heap.get?_push_size _ rfl, rfl⟩ isSubtype_stop ?_)
  exact wpAny_pure (hQ _ (((Heap.SameBut.update ..).extBut.push _).push _))
end

/-! ### a locked dict -/
theorem kv_get {κ : Type} {kvs : List (κ × V)} {vs : List (κ × Value)} (h : KV kvs vs) : ∀ {i : Nat} {k : κ} {v : V}, kvs[i]? = some (k, v) → ∃ u, vs[i]? = some (k, u) ∧ RelV v u := by
  unfold KV at h
  induction h with
  | nil => intro i k v e; simp at e
  | @cons a b l₁ l₂ r t ih =>
    intro i k v e
    cases i with
    | zero =>
      simp only [List.getElem?_cons_zero, Option.some.injEq] at e
      subst e
      refine ⟨b.2, ?_, r.2⟩
      simp only [List.getElem?_cons_zero]
      exact congrArg some (Prod.ext r.1.symm rfl)
    | succ j =>
      simp only [List.getElem?_cons_succ] at e ⊢
      exact ih e
theorem paired_get {α β : Type} {G : α → β → Prop} {l₁ : List α} {l₂ : List β} (h : Paired G l₁ l₂) : ∀ {i : Nat} {a : α}, l₁[i]? = some a → ∃ b, l₂[i]? = some b ∧ G a b := by
  induction h with
  | nil => intro i a e; simp at e
  | @cons a b l₁ l₂ r t ih =>
    intro i a' e
    cases i with
    | zero =>
      simp only [List.getElem?_cons_zero, Option.some.injEq] at e
      subst e
      exact ⟨b, rfl, r⟩
    | succ j =>
      simp only [List.getElem?_cons_succ] at e ⊢
      exact ih e
theorem relV_key {k : Key} {u : Value} (h : keyIs k u = true) : RelV (kV k) u := by
  rcases keyIs_shape h with ⟨i, t, rfl, rfl⟩ | ⟨x, t, rfl, rfl⟩
  · exact ⟨t, rfl⟩
  · exact ⟨t, rfl⟩
section
variable {X : Cx} {pins : List (Addr × Obj)} {σ : St} {H : Hp} {s : Shared} {d : Addr} {o : Obj}
theorem Inv.frzK {kvs : List (Key × V)} (I : Inv X pins σ H s) (h : H d = some (.frz o (.dK kvs))) :
    (d == sysModules) = false ∧ s.heap.get? d = some o ∧ o.ExactDict ∧ ∃ (es : Array DictEntry) (ep : Nat) (vs : List (Key × Value)), o.data = .dict es ep ∧ es.size = kvs.length ∧ KV kvs vs ∧ s.heap.DictAt (mixKind X.prog X.w) d vs ep := by
  obtain ⟨hd, z, hs, vs, kv, o', es, ep, ho, hx, hdt, r⟩ := I.hok d _ h
  rw [hd] at ho
  cases ho
  refine ⟨hs, hd, hx, es, ep, vs, hdt, ?_, kv, o, es, hd, hx, hdt, r⟩
  have l1 := r.2.1.length
  have l2 : kvs.length = vs.length := Paired.length kv
  rw [Array.length_toList] at l1
  omega
/-- the same for tuple keys -/
theorem Inv.frzT {kvs : List (List Key × V)} (I : Inv X pins σ H s) (h : H d = some (.frz o (.dT kvs))) :
    (d == sysModules) = false ∧ s.heap.get? d = some o ∧ o.ExactDict ∧ ∃ (es : Array DictEntry) (ep : Nat), o.data = .dict es ep ∧ es.size = kvs.length ∧
      ∀ (i : Nat) (k : List Key) (v : V), kvs[i]? = some (k, v) → ∃ (en : DictEntry) (q : Addr), es[i]? = some en ∧ en.key = .ref q ∧ H q = some (.tup (k.map kV)) := by
  obtain ⟨hd, z, hs, xs, pr, o', es, ep, ho, hx, hdt, he, _⟩ := I.hok d _ h
  rw [hd] at ho
  cases ho
  refine ⟨hs, hd, hx, es, ep, hdt, ?_, fun i k v e => ?_⟩
  · have l1 : es.size = xs.length := size_of_entries he
    have l2 : kvs.length = xs.length := Paired.length pr
    omega
  · obtain ⟨b, hb, e1, e2, _⟩ := paired_get pr e
    have q := entry_at he i
    rw [hb] at q
    exact ⟨_, b.2.1, q, rfl, e2⟩
end

/-- the keys of the locked dict at d, in their order -/
def Itk (d : Addr) (o : Obj) (kvs : List (Key × V)) : It :=
  ⟨fun i H => H d = some (.frz o (.dK kvs)) ∧ i < kvs.length, fun i H x H' => H' = H ∧ ∃ k v, kvs[i]? = some (k, v) ∧ x = kV k, fun i H => H d = some (.frz o (.dK kvs)) ∧ kvs.length ≤ i⟩
/-- .. of tuple keys: the key's own tuple -/
def Itkt (d : Addr) (o : Obj) (kvs : List (List Key × V)) : It :=
  ⟨fun i H => H d = some (.frz o (.dT kvs)) ∧ i < kvs.length, fun i H x H' => H' = H ∧ ∃ (k : List Key) (v : V) (q : Addr), kvs[i]? = some (k, v) ∧ x = .ref q ∧ H q = some (.tup (k.map kV)), fun i H => H d = some (.frz o (.dT kvs)) ∧ kvs.length ≤ i⟩
/-- the values -/
def Itd (d : Addr) (o : Obj) (kvs : List (Key × V)) : It :=
  ⟨fun i H => H d = some (.frz o (.dK kvs)) ∧ i < kvs.length, fun i H x H' => H' = H ∧ ∃ k, kvs[i]? = some (k, x), fun i H => H d = some (.frz o (.dK kvs)) ∧ kvs.length ≤ i⟩
/-- the pairs, each a new tuple -/
def Iti (d : Addr) (o : Obj) (kvs : List (Key × V)) : It :=
  ⟨fun i H => H d = some (.frz o (.dK kvs)) ∧ i < kvs.length, fun i H x H' => ∃ T k v, kvs[i]? = some (k, v) ∧ x = .ref T ∧ H T = none ∧ H' = upd H T (.tup [kV k, v]), fun i H => H d = some (.frz o (.dK kvs)) ∧ kvs.length ≤ i⟩
theorem dict_ep {o : Obj} {es es' : Array DictEntry} {ep ep' : Nat} (h : o.data = .dict es ep) (h' : o.data = .dict es' ep') : es' = es ∧ ep' = ep := by
  rw [h] at h'
  cases h'
  exact ⟨rfl, rfl⟩
section
variable {P : Program} {w : World} {K : PySem.W.Frag} {tg : Expr} {d : Addr} {o : Obj} {es : Array DictEntry} {ep : Nat}
theorem turn_keys {kvs : List (Key × V)} (it : Addr) (hod : o.data = .dict es ep) : Turn P w K tg (Itk d o kvs) [it] it (fun i h => h.IsKeyIter it d i kvs.length ep) where
  mem := by simp
  obj := fun i h st b hb => by
    have e : b = it := by simpa using hb
    subst e
    obtain ⟨oi, e, c, dd⟩ := st
    exact ⟨oi, e, fun v z => by rw [dd] at z; cases z⟩
  keep := fun i h h' st k => st.at fun oi e => k it (by simp) oi e
  item := by
    intro X hP hw hK hc i pins s σ H E I hf st hg
    subst hP hw hK
    obtain ⟨hd, hi⟩ := hg
    obtain ⟨f0, f1, f2, f3, f4, f5⟩ := hf it (by simp)
    obtain ⟨hs, hgd, hx, es', ep', vs, hdt, hsz, kv, hm⟩ := I.frzK hd
    obtain ⟨rfl, rfl⟩ := dict_ep hod hdt
    obtain ⟨⟨k, v⟩, hkv⟩ : ∃ p, kvs[i]? = some p := ⟨kvs[i], List.getElem?_eq_getElem hi⟩
    obtain ⟨u, hu, ru⟩ := kv_get kv hkv
    have hl : kvs.length = vs.length := Paired.length kv
    rw [hl] at st
    refine wpAny_pyNext_dict_item st hm hu fun key h' hkey st' sb => ?_
    have I1 : Inv X pins σ H { s with heap := h' } := I.turned (t' := s.toks) (fun b ob hb e => (sb.2 b hb).trans e) f0 f1 f3 f4 f5
    obtain ⟨oi, e, c, dd⟩ := id st'
    refine ⟨key, rfl, go_of (s := { s with heap := h' }) e c dd (by decide) ⟨kV k, H, I1, relV_key (show keyIs k key = true from hkey), ⟨rfl, k, v, hkv, rfl⟩, ?_, fun b hb => (hf b hb).1⟩⟩
    show h'.IsKeyIter it d (i + 1) kvs.length _
    rw [hl]
    exact st'
  done := by
    intro X hP hw hK hc i pins s σ H E I hf st hg
    subst hP hw hK
    obtain ⟨hd, hi⟩ := hg
    obtain ⟨f0, f1, f2, f3, f4, f5⟩ := hf it (by simp)
    obtain ⟨hs, hgd, hx, es', ep', vs, hdt, hsz, kv, hm⟩ := I.frzK hd
    obtain ⟨rfl, rfl⟩ := dict_ep hod hdt
    exact next_key_end (I.ok.hd hc) st hgd hdt hsz hi fun h' eb => ⟨rfl, I.turned (t' := s.toks) (fun b ob hb e => eb b ob hb e) f0 f1 f3 f4 f5⟩
  self := fun A i s Q E st h => wpAny_pyIter_keyiter st h
theorem turn_keysT {kvs : List (List Key × V)} (it : Addr) (hod : o.data = .dict es ep) : Turn P w K tg (Itkt d o kvs) [it] it (fun i h => h.IsKeyIter it d i kvs.length ep) where
  mem := by simp
  obj := fun i h st b hb => by
    have e : b = it := by simpa using hb
    subst e
    obtain ⟨oi, e, c, dd⟩ := st
    exact ⟨oi, e, fun v z => by rw [dd] at z; cases z⟩
  keep := fun i h h' st k => st.at fun oi e => k it (by simp) oi e
  item := by
    intro X hP hw hK hc i pins s σ H E I hf st hg
    subst hP hw hK
    obtain ⟨hd, hi⟩ := hg
    obtain ⟨f0, f1, f2, f3, f4, f5⟩ := hf it (by simp)
    obtain ⟨hs, hgd, hx, es', ep', hdt, hsz, ent⟩ := I.frzT hd
    obtain ⟨rfl, rfl⟩ := dict_ep hod hdt
    obtain ⟨⟨k, v⟩, hkv⟩ : ∃ p, kvs[i]? = some p := ⟨kvs[i], List.getElem?_eq_getElem hi⟩
    obtain ⟨en, q, hen, hkey, hq⟩ := ent i k v hkv
    refine next_key_item st hgd hdt hsz hen fun h' st' sb => ?_
    have I1 : Inv X pins σ H { s with heap := h' } := I.turned (t' := s.toks) (fun b ob hb e => (sb.2 b hb).trans e) f0 f1 f3 f4 f5
    obtain ⟨oi, e, c, dd⟩ := id st'
    exact ⟨en.key, rfl, go_of (s := { s with heap := h' }) e c dd (by decide) ⟨.ref q, H, I1, hkey, ⟨rfl, k, v, q, hkv, rfl, hq⟩, st', fun b hb => (hf b hb).1⟩⟩
  done := by
    intro X hP hw hK hc i pins s σ H E I hf st hg
    subst hP hw hK
    obtain ⟨hd, hi⟩ := hg
    obtain ⟨f0, f1, f2, f3, f4, f5⟩ := hf it (by simp)
    obtain ⟨hs, hgd, hx, es', ep', hdt, hsz, ent⟩ := I.frzT hd
    obtain ⟨rfl, rfl⟩ := dict_ep hod hdt
    exact next_key_end (I.ok.hd hc) st hgd hdt hsz hi fun h' eb => ⟨rfl, I.turned (t' := s.toks) (fun b ob hb e => eb b ob hb e) f0 f1 f3 f4 f5⟩
  self := fun A i s Q E st h => by
    refine wpAny_pyIter_slot st.typeIs F.slot_dict_keyiterator_iter (wpAny_call_entry F.slot_dict_keyiterator_iter st.typeIs F.entry_dict_keyiterator_iter ?_ (F.args_dict_keyiterator_iter_1 _))
    show wpAny _ _ (ret (.ref it)) _ _ s
    exact wpAny_pure ⟨_, rfl, "dict_keyiterator", _, st.typeIs, F.slot_dict_keyiterator_next.lookup, h⟩
theorem turn_vals {kvs : List (Key × V)} (it : Addr) (hod : o.data = .dict es ep) : Turn P w K tg (Itd d o kvs) [it] it (fun i h => h.IsValIter it d i kvs.length ep) where
  mem := by simp
  obj := fun i h st b hb => by
    have e : b = it := by simpa using hb
    subst e
    obtain ⟨oi, e, c, dd⟩ := st
    exact ⟨oi, e, fun v z => by rw [dd] at z; cases z⟩
  keep := fun i h h' st k => st.at fun oi e => k it (by simp) oi e
  item := by
    intro X hP hw hK hc i pins s σ H E I hf st hg
    subst hP hw hK
    obtain ⟨hd, hi⟩ := hg
    obtain ⟨f0, f1, f2, f3, f4, f5⟩ := hf it (by simp)
    obtain ⟨hs, hgd, hx, es', ep', vs, hdt, hsz, kv, hm⟩ := I.frzK hd
    obtain ⟨rfl, rfl⟩ := dict_ep hod hdt
    obtain ⟨⟨k, v⟩, hkv⟩ : ∃ p, kvs[i]? = some p := ⟨kvs[i], List.getElem?_eq_getElem hi⟩
    obtain ⟨u, hu, ru⟩ := kv_get kv hkv
    have hl : kvs.length = vs.length := Paired.length kv
    rw [hl] at st
    refine wpAny_pyNext_values_item st hm hu fun h' st' sb => ?_
    have I1 : Inv X pins σ H { s with heap := h' } := I.turned (t' := s.toks) (fun b ob hb e => (sb.2 b hb).trans e) f0 f1 f3 f4 f5
    obtain ⟨oi, e, c, dd⟩ := id st'
    refine ⟨u, rfl, go_of (s := { s with heap := h' }) e c dd (by decide) ⟨v, H, I1, ru, ⟨rfl, k, hkv⟩, ?_, fun b hb => (hf b hb).1⟩⟩
    show h'.IsValIter it d (i + 1) kvs.length _
    rw [hl]
    exact st'
  done := by
    intro X hP hw hK hc i pins s σ H E I hf st hg
    subst hP hw hK
    obtain ⟨hd, hi⟩ := hg
    obtain ⟨f0, f1, f2, f3, f4, f5⟩ := hf it (by simp)
    obtain ⟨hs, hgd, hx, es', ep', vs, hdt, hsz, kv, hm⟩ := I.frzK hd
    obtain ⟨rfl, rfl⟩ := dict_ep hod hdt
    have hl : kvs.length = vs.length := Paired.length kv
    rw [hl] at st
    exact wpAny_pyNext_values_end (I.ok.hd hc) st hm (List.getElem?_eq_none (by omega)) fun h' eb => ⟨rfl, I.turned (t' := s.toks) (fun b ob hb e => eb b ob hb e) f0 f1 f3 f4 f5⟩
  self := fun A i s Q E st h => wpAny_pyIter_valiter st h
theorem turn_items {kvs : List (Key × V)} {elts : List Expr} {kk : Nat} {tpos : Pos} (it : Addr) (hod : o.data = .dict es ep) :
    Turn P w K (.Tuple elts kk tpos) (Iti d o kvs) [it] it (fun i h => ∃ ok ov, IsItemIter h it d i kvs.length ep ok ov) where
  mem := by simp
  obj := fun i h st b hb => by
    have e : b = it := by simpa using hb
    subst e
    obtain ⟨ok, ov, e⟩ := st
    exact ⟨_, e, fun v z => nomatch z⟩
  keep := fun i h h' st k => let ⟨ok, ov, e⟩ := st; ⟨ok, ov, k it (by simp) _ e⟩
  item := by
    intro X hP hw hK hc i pins s σ H E I hf st hg
    subst hP hw hK
    obtain ⟨hd, hi⟩ := hg
    obtain ⟨hs, hgd, hx, es', ep', vs, hdt, hsz, kv, hm⟩ := I.frzK hd
    obtain ⟨rfl, rfl⟩ := dict_ep hod hdt
    obtain ⟨⟨k, v⟩, hkv⟩ : ∃ p, kvs[i]? = some p := ⟨kvs[i], List.getElem?_eq_getElem hi⟩
    obtain ⟨u, hu, ru⟩ := kv_get kv hkv
    have hl : kvs.length = vs.length := Paired.length kv
    obtain ⟨ok, ov, he⟩ := st
    rw [hl] at he
    have hlt : it < s.heap.objs.size := Heap.lt_size he
    refine wpAny_pyNext_items_item he hm hu fun key h' hkey ho hT hz hk => ?_
    refine ⟨_, rfl, wpAny_letOwnedTupleGo_items (s := { s with heap := h' }) ho fun h'' he' sb => ?_⟩
    have hT2 : h''.get? s.heap.objs.size = some { cls := .type "tuple", data := .seq #[key, u] } := (sb.2 _ (Nat.ne_of_gt hlt)).trans hT
    have new : ObjOk X.prog X.w (upd H s.heap.objs.size (.tup [kV k, v])) h'' s.heap.objs.size (.tup [kV k, v]) :=
      ⟨by show 2 ≤ sizeLine; decide, [key, u], .cons (relV_key (show keyIs k key = true from hkey)) (.cons ru .nil), ⟨_, hT2, rfl, _, rfl⟩⟩
    have I1 : Inv X pins σ (upd H s.heap.objs.size (.tup [kV k, v])) { s with heap := h'' } :=
      I.turnedNew (t' := s.toks) (ch := [it]) (fun b ob hb e => (sb.2 b (by simpa using hb)).trans (hk b ob (by simpa using hb) e)) hf (Nat.le_refl _) new
    refine ⟨.ref s.heap.objs.size, _, I1, rfl, ⟨_, k, v, hkv, rfl, I.hok.fresh (Nat.le_refl _), rfl⟩, ⟨key, u, ?_⟩, fun b hb => ?_⟩
    · rw [hl]; exact he'
    · have e : b = it := by simpa using hb
      rw [e, upd_ne (Nat.ne_of_lt hlt)]
      exact (hf it (by simp)).1
  done := by
    intro X hP hw hK hc i pins s σ H E I hf st hg
    subst hP hw hK
    obtain ⟨hd, hi⟩ := hg
    obtain ⟨f0, f1, f2, f3, f4, f5⟩ := hf it (by simp)
    obtain ⟨hs, hgd, hx, es', ep', vs, hdt, hsz, kv, hm⟩ := I.frzK hd
    obtain ⟨rfl, rfl⟩ := dict_ep hod hdt
    have hl : kvs.length = vs.length := Paired.length kv
    obtain ⟨ok, ov, he⟩ := st
    rw [hl] at he
    exact wpAny_pyNext_items_end (I.ok.hd hc) he hm (List.getElem?_eq_none (by omega)) fun h' eb => ⟨rfl, I.turned (t' := s.toks) (fun b ob hb e => eb b ob hb e) f0 f1 f3 f4 f5⟩
  self := fun A i s Q E st h => let ⟨_, _, e⟩ := st; PySem.W.kcp_self e h
end

/-! ### for k in d, d.keys(), d.values(), d.items() -/
/-- the dict is locked (tLock, or by the caller) -/
def iKeys (td : TE) : TI := fun σ H R => td σ H fun x H1 => ∃ d o, x = .ref d ∧ ((∃ kvs, H1 d = some (.frz o (.dK kvs)) ∧ R (Itk d o kvs) H1) ∨ ∃ kvs, H1 d = some (.frz o (.dT kvs)) ∧ R (Itkt d o kvs) H1)
def iVals (td : TE) : TI := fun σ H R => td σ H fun x H1 => ∃ d o kvs, x = .ref d ∧ H1 d = some (.frz o (.dK kvs)) ∧ R (Itd d o kvs) H1
def iItems (td : TE) : TI := fun σ H R => td σ H fun x H1 => ∃ d o kvs, x = .ref d ∧ H1 d = some (.frz o (.dK kvs)) ∧ R (Iti d o kvs) H1
def iKeysM (td : TE) : TI := fun σ H R => td σ H fun x H1 => ∃ d o kvs, x = .ref d ∧ H1 d = some (.frz o (.dK kvs)) ∧ R (Itk d o kvs) H1
section
variable {X : Cx} {tg e : Expr} {td : TE} {apos cpos : Pos}
theorem pi_keys (he : PE X e td) : PI X tg e (iKeys td) := by
  intro pins s σ H R I h
  refine thn (he pins s σ H _ I h) fun u s1 ⟨x, H1, I1, rx, d, o, ex, q⟩ => ?_
  subst ex
  obtain rfl : u = Value.ref d := rx
  rcases q with ⟨kvs, hd, q⟩ | ⟨kvs, hd, q⟩
  · obtain ⟨hs, hgd, hx, es, ep, vs, hdt, hsz, kv, hm⟩ := I1.frzK hd
    refine iter_keys hs hgd hx hdt (pi_one (tk := s1.toks) I1 _ (turn_keys _ hdt) ⟨_, Heap.get?_push_size _ rfl, rfl, ?_⟩ q)
    rw [hsz] <;> rfl
  · obtain ⟨hs, hgd, hx, es, ep, hdt, hsz, ent⟩ := I1.frzT hd
    refine iter_keys hs hgd hx hdt (pi_one (tk := s1.toks) I1 _ (turn_keysT _ hdt) ⟨_, Heap.get?_push_size _ rfl, rfl, ?_⟩ q)
    rw [hsz] <;> rfl
theorem pi_values (he : PE X e td) (hbase : attributeBase e "values" X.env (eval e X.env) = eval e X.env := by rfl) (hline : (apos.endLine == cpos.line) = true := by rfl) : PI X tg (.Call (.Attribute e "values" apos) [] [] cpos) (iVals td) := by
  intro pins s σ H R I h
  refine wpAny_Call_method (T := "dict") (id := "dict.values") hbase rfl hline F.plainAttrs_dict F.slot_dict_values F.type_dict_values (thn (he pins s σ H _ I h) fun u s1 ⟨x, H1, I1, rx, d, o, kvs, ex, hd, q⟩ => ?_)
  subst ex
  obtain rfl : u = Value.ref d := rx
  obtain ⟨hs, hgd, hx, es, ep, vs, hdt, hsz, kv, hm⟩ := I1.frzK hd
  have hl : kvs.length = vs.length := Paired.length kv
  refine ⟨hm.dictOf.typeIs, hm.dictOf.mapOf.noDict, ?_⟩
  have I2 : Inv X pins σ H1 { s1 with heap := s1.heap.push { cls := .type "dict_values", data := .fields #[.ref d] } } := I1.kept (t' := s1.toks) fun b ob q => Heap.get?_push_of_some _ q
  have fin : wpAny (model X.prog X.w) X.A (pyIter (.ref s1.heap.objs.size)) (PIE X pins σ tg R) X.xe { s1 with heap := s1.heap.push { cls := .type "dict_values", data := .fields #[.ref d] } } := by
    refine wpAny_pyIter_values (d := d) (knd := mixKind X.prog X.w) ⟨_, Heap.get?_push_size _ rfl, rfl, rfl⟩ (hm.push _) (pi_one (tk := s1.toks) I2 _ (turn_vals _ hdt) ⟨_, Heap.get?_push_size _ rfl, rfl, ?_⟩ q)
    rw [hl] <;> rfl
  show wpAny _ _ (callWith cpos (.builtin "dict.values") [.ref d] [] []) _ X.xe s1
  exact method_meetsIn F.slot_dict_values F.entry_dict_values rfl (PySem.evalArgs_none ⟨rfl, hm.dictOf.typeIs, F.args_dict_values_1 _, _, meets_dict_values (mixKind X.prog X.w) d hs, ⟨vs, hm.dictOf⟩, fin⟩)
theorem pi_items {elts : List Expr} {kk : Nat} {tpos : Pos} (he : PE X e td) (hbase : attributeBase e "items" X.env (eval e X.env) = eval e X.env := by rfl) (hline : (apos.endLine == cpos.line) = true := by rfl) :
    PI X (.Tuple elts kk tpos) (.Call (.Attribute e "items" apos) [] [] cpos) (iItems td) := by
  intro pins s σ H R I h
  refine wpAny_Call_method (T := "dict") (id := "dict.items") hbase rfl hline F.plainAttrs_dict F.slot_dict_items F.type_dict_items (thn (he pins s σ H _ I h) fun u s1 ⟨x, H1, I1, rx, d, o, kvs, ex, hd, q⟩ => ?_)
  subst ex
  obtain rfl : u = Value.ref d := rx
  obtain ⟨hs, hgd, hx, es, ep, vs, hdt, hsz, kv, hm⟩ := I1.frzK hd
  have hl : kvs.length = vs.length := Paired.length kv
  refine ⟨hm.dictOf.typeIs, hm.dictOf.mapOf.noDict, ?_⟩
  have I2 : Inv X pins σ H1 { s1 with heap := s1.heap.push { cls := .type "dict_items", data := .fields #[.ref d] } } := I1.kept (t' := s1.toks) fun b ob q => Heap.get?_push_of_some _ q
  have fin : wpAny (model X.prog X.w) X.A (pyIter (.ref s1.heap.objs.size)) (PIE X pins σ (.Tuple elts kk tpos) R) X.xe { s1 with heap := s1.heap.push { cls := .type "dict_items", data := .fields #[.ref d] } } := by
    refine wpAny_pyIter_items (d := d) (knd := mixKind X.prog X.w) ⟨_, Heap.get?_push_size _ rfl, rfl, rfl⟩ (hm.push _) (pi_one (tk := s1.toks) I2 _ (turn_items _ hdt) ⟨.none, .none, ?_⟩ q)
    rw [hl]
    exact Heap.get?_push_size _ rfl
  show wpAny _ _ (callWith cpos (.builtin "dict.items") [.ref d] [] []) _ X.xe s1
  exact method_meetsIn F.slot_dict_items F.entry_dict_items rfl (PySem.evalArgs_none ⟨rfl, hm.dictOf.typeIs, F.args_dict_items_1 _, _, meets_dict_items (mixKind X.prog X.w) d hs, ⟨vs, hm.dictOf⟩, fin⟩)
theorem pi_keysM (he : PE X e td) (hbase : attributeBase e "keys" X.env (eval e X.env) = eval e X.env := by rfl) (hline : (apos.endLine == cpos.line) = true := by rfl) : PI X tg (.Call (.Attribute e "keys" apos) [] [] cpos) (iKeysM td) := by
  intro pins s σ H R I h
  refine wpAny_Call_method (T := "dict") (id := "dict.keys") hbase rfl hline F.plainAttrs_dict F.slot_dict_keys F.type_dict_keys (thn (he pins s σ H _ I h) fun u s1 ⟨x, H1, I1, rx, d, o, kvs, ex, hd, q⟩ => ?_)
  subst ex
  obtain rfl : u = Value.ref d := rx
  obtain ⟨hs, hgd, hx, es, ep, vs, hdt, hsz, kv, hm⟩ := I1.frzK hd
  have hl : kvs.length = vs.length := Paired.length kv
  refine ⟨hm.dictOf.typeIs, hm.dictOf.mapOf.noDict, ?_⟩
  have I2 : Inv X pins σ H1 { s1 with heap := s1.heap.push { cls := .type "dict_keys", data := .fields #[.ref d] } } := I1.kept (t' := s1.toks) fun b ob q => Heap.get?_push_of_some _ q
  have fin : wpAny (model X.prog X.w) X.A (pyIter (.ref s1.heap.objs.size)) (PIE X pins σ tg R) X.xe { s1 with heap := s1.heap.push { cls := .type "dict_keys", data := .fields #[.ref d] } } := by
    refine PySem.W.kdl_pyIter_keys (d := d) (knd := mixKind X.prog X.w) ⟨_, Heap.get?_push_size _ rfl, rfl, rfl⟩ (hm.push _) (pi_one (tk := s1.toks) I2 _ (turn_keys _ hdt) ⟨_, Heap.get?_push_size _ rfl, rfl, ?_⟩ q)
    rw [hl] <;> rfl
  show wpAny _ _ (callWith cpos (.builtin "dict.keys") [.ref d] [] []) _ X.xe s1
  exact method_meetsIn F.slot_dict_keys F.entry_dict_keys rfl (PySem.evalArgs_none ⟨rfl, hm.dictOf.typeIs, F.args_dict_keys_1 _, _, PySem.W.kdl_meets_keys (mixKind X.prog X.w) d hs, ⟨vs, hm.dictOf⟩, fin⟩)
end

/-! ### enumerate(list) -/
/-- the list at a as it stands at each turn, each item in a new pair -/
def Ite (K : PySem.W.Frag) (a : Addr) : It :=
  ⟨fun i H => ∃ (xs : List V) (x : V), SqL K H a xs ∧ xs[i]? = some x, fun i H v H' => ∃ T x, v = .ref T ∧ H T = none ∧ H' = upd H T (.tup [.int (i : Nat), x]) ∧ ∀ xs, SqL K H a xs → xs[i]? = some x, fun i H => ∃ xs : List V, SqL K H a xs ∧ xs.length ≤ i⟩
theorem turn_enum {P : Program} {w : World} {K : PySem.W.Frag} {elts : List Expr} {kk : Nat} {tpos : Pos} (a e it : Addr) :
    Turn P w K (.Tuple elts kk tpos) (Ite K a) [e, it] e (fun i h => (∃ old, IsEnum h e it ((i : Nat) : Int) old) ∧ h.IsListIter it a i ∧ e ≠ it) where
  mem := by simp
  obj := fun i h st b hb => by
    obtain ⟨⟨old, he⟩, ⟨o, ho, hc, hd⟩, _⟩ := st
    have e' : b = e ∨ b = it := by simpa using hb
    rcases e' with z | z
    · rw [z]; exact ⟨_, he, fun v q => nomatch q⟩
    · rw [z]; exact ⟨o, ho, fun v q => by rw [hd] at q; cases q⟩
  keep := fun i h h' st k => let ⟨⟨old, he⟩, hi, hne⟩ := st; ⟨⟨old, k e (by simp) _ he⟩, hi.at fun o q => k it (by simp) o q, hne⟩
  item := by
    intro X hP hw hK hc i pins s σ H E I hf st hg
    subst hP hw hK
    obtain ⟨⟨old, he⟩, hit, hne⟩ := st
    obtain ⟨xs, x, hq, hx⟩ := hg
    obtain ⟨its, rv, p, hz⟩ := I.list hq
    obtain ⟨u, hu, ru⟩ := rv.get hx
    have hel : e < s.heap.objs.size := Heap.lt_size he
    have hil : it < s.heap.objs.size := by obtain ⟨_, q, _⟩ := hit; exact Heap.lt_size q
    refine wpAny_pyNext_enum_item he hit p.isList (x := u) (by simpa using hu) hne fun h' ho hit' hT hsz hk => ?_
    refine ⟨_, rfl, wpAny_letOwnedTupleGo_enum (s := { s with heap := h', toks := s.toks + 1 }) ho fun h'' he' sb => ?_⟩
    have hT2 : h''.get? s.heap.objs.size = some { cls := .type "tuple", data := .seq #[.int i s.toks, u] } := (sb.2 _ (Nat.ne_of_gt hel)).trans hT
    have new : ObjOk X.prog X.w (upd H s.heap.objs.size (.tup [.int (i : Nat), x])) h'' s.heap.objs.size (.tup [.int (i : Nat), x]) :=
      ⟨by show 2 ≤ sizeLine; decide, [.int i s.toks, u], .cons ⟨_, rfl⟩ (.cons ru .nil), ⟨_, hT2, rfl, _, rfl⟩⟩
    have I1 : Inv X pins σ (upd H s.heap.objs.size (.tup [.int (i : Nat), x])) { s with heap := h'', toks := s.toks + 1 } :=
      I.turnedNew (ch := [e, it]) (fun b ob hb q => (sb.2 b (fun z => hb (by simp [z]))).trans (hk b ob (fun z => hb (by simp [z])) (fun z => hb (by simp [z])) q)) hf (Nat.le_refl _) new
    refine ⟨.ref s.heap.objs.size, _, I1, rfl, ⟨_, x, rfl, I.hok.fresh (Nat.le_refl _), rfl, fun ys hy => by rw [I.list_inj hy hq]; exact hx⟩, ⟨⟨u, ?_⟩, hit'.at fun o q => (sb.2 it (Ne.symm hne)).trans q, hne⟩, fun b hb => ?_⟩
    · have e1 : ((i + 1 : Nat) : Int) = (i : Int) + 1 := by omega
      rw [e1]; exact he'
    · have hb' : b < s.heap.objs.size := by
        have e' : b = e ∨ b = it := by simpa using hb
        rcases e' with z | z
        · rw [z]; exact hel
        · rw [z]; exact hil
      rw [upd_ne (Nat.ne_of_lt hb')]
      exact (hf b hb).1
  done := by
    intro X hP hw hK hc i pins s σ H E I hf st hg
    subst hP hw hK
    obtain ⟨⟨old, he⟩, hit, hne⟩ := st
    obtain ⟨xs, hq, hx⟩ := hg
    obtain ⟨its, rv, p, hz⟩ := I.list hq
    obtain ⟨f0, f1, f2, f3, f4, f5⟩ := hf it (by simp)
    have hl := rv.length
    exact wpAny_pyNext_enum_end (I.ok.hd hc) he hit p.isList (by simp; omega) fun h' eb => ⟨rfl, I.turned (t' := s.toks) (fun b o hb q => eb b o hb q) f0 f1 f3 f4 f5⟩
  self := fun A i s Q E st h => let ⟨⟨_, he⟩, _⟩ := st; wpAny_pyIter_enum he h
def iEnum (K : PySem.W.Frag) (ta : TA) : TI := fun σ H R => ta σ H fun vs H1 => ∃ a xs, vs = [.ref a] ∧ SqL K H1 a xs ∧ R (Ite K a) H1
theorem pi_enum {X : Cx} {e : Expr} {ta : TA} {p pos tpos : Pos} {elts : List Expr} {kk : Nat} (hg : Gl X "enumerate") (hm : X.mg "enumerate" = none) (ha : PA X [e] ta) (hs : starEach [e] X.env = [(false, eval e X.env)] := by rfl) :
    PI X (.Tuple elts kk tpos) (.Call (.Name "enumerate" p) [e] [] pos) (iEnum X.K ta) := by
  intro pins s σ H R I h
  refine Call_ (ld_blt I hg hm boot_enumerate (PyProof.Rows.callWith_type1 (thn (ha pos pins s σ H _ I h) fun us s1 ⟨vs, H1, I1, r1, q1⟩ => ?_) hs rfl))
  obtain ⟨a, xs, ex, hq, q⟩ := q1
  subst ex
  cases r1 with
  | cons r rr =>
    cases rr
    cases r
    obtain ⟨its, rv, p', hz⟩ := I1.list hq
    refine call_enumerate_list p'.isList fun h' he hit hsz hk => wpAny_pyIter_enum he ?_
    have I2 : Inv X pins σ H1 { s1 with heap := h' } := I1.kept (t' := s1.toks) hk
    refine ⟨s1.heap.objs.size + 1, [s1.heap.objs.size + 1, s1.heap.objs.size], _, _, H1, rfl, I2, turn_enum a (s1.heap.objs.size + 1) s1.heap.objs.size, ⟨⟨.none, he⟩, hit, Nat.succ_ne_self _⟩, fun b hb => ?_, q⟩
    have e' : b = s1.heap.objs.size + 1 ∨ b = s1.heap.objs.size := by simpa using hb
    have hle : s1.heap.objs.size ≤ b := by
      rcases e' with z | z
      · rw [z]; exact Nat.le_add_right _ _
      · rw [z]; exact Nat.le_refl _
    exact I1.fpOk hle (I1.hok.fresh hle)
/-! ### zip(list, list) -/
theorem boot_zip5 : bootBuiltins "zip" = some (.type "zip") := by decide +kernel
/-- the lists at a and b as they stand at each turn, the items in new pairs -/
def Itz (K : PySem.W.Frag) (a b : Addr) : It :=
  ⟨fun i H => ∃ (xs ys : List V) (x y : V), SqL K H a xs ∧ SqL K H b ys ∧ xs[i]? = some x ∧ ys[i]? = some y,
    fun i H v H' => ∃ T x y, v = .ref T ∧ H T = none ∧ H' = upd H T (.tup [x, y]) ∧ (∀ xs, SqL K H a xs → xs[i]? = some x) ∧ ∀ ys, SqL K H b ys → ys[i]? = some y,
    fun i H => ∃ xs ys : List V, SqL K H a xs ∧ SqL K H b ys ∧ (xs.length ≤ i ∨ ys.length ≤ i)⟩
theorem turn_zip {P : Program} {w : World} {K : PySem.W.Frag} {elts : List Expr} {kk : Nat} {tpos : Pos} {a b z TI TO i1 i2 : Addr} (D : ZipApart z TI TO i1 i2 a b) :
    Turn P w K (.Tuple elts kk tpos) (Itz K a b) [z, TI, TO, i1, i2] z (fun i h => IsZip h z TI TO .none ∧ IsPair h TI (.ref i1) (.ref i2) ∧ (∃ x y, IsPair h TO x y) ∧ h.IsListIter i1 a i ∧ h.IsListIter i2 b i) where
  mem := by simp
  obj := fun i h st c hc => by
    obtain ⟨hz, hTI, ⟨x, y, hTO⟩, ⟨o1, e1, _, d1⟩, ⟨o2, e2, _, d2⟩⟩ := st
    have e' : c = z ∨ c = TI ∨ c = TO ∨ c = i1 ∨ c = i2 := by simpa using hc
    rcases e' with q | q | q | q | q
    · rw [q]; exact ⟨_, hz, fun v q => nomatch q⟩
    · rw [q]; exact ⟨_, hTI, fun v q => nomatch q⟩
    · rw [q]; exact ⟨_, hTO, fun v q => nomatch q⟩
    · rw [q]; exact ⟨o1, e1, fun v q => by rw [d1] at q; cases q⟩
    · rw [q]; exact ⟨o2, e2, fun v q => by rw [d2] at q; cases q⟩
  keep := fun i h h' st k => by
    obtain ⟨hz, hTI, ⟨x, y, hTO⟩, h1, h2⟩ := st
    exact ⟨k z (by simp) _ hz, k TI (by simp) _ hTI, ⟨x, y, k TO (by simp) _ hTO⟩, h1.at fun o q => k i1 (by simp) o q, h2.at fun o q => k i2 (by simp) o q⟩
  item := by
    intro X hP hw hK hc i pins s σ H E I hf st hg
    subst hP hw hK
    obtain ⟨hz, hTI, ⟨x0, y0, hTO⟩, h1, h2⟩ := st
    obtain ⟨xs, ys, x, y, hqx, hqy, hx, hy⟩ := hg
    obtain ⟨its, rv, p, _⟩ := I.list hqx
    obtain ⟨its2, rv2, p2, _⟩ := I.list hqy
    obtain ⟨u, hu, ru⟩ := rv.get hx
    obtain ⟨u2, hu2, ru2⟩ := rv2.get hy
    have hzl : z < s.heap.objs.size := Heap.lt_size hz
    refine wpAny_pyNext_zip_item D hz hTI hTO h1 h2 p.isList p2.isList (x := u) (y := u2) (by simpa using hu) (by simpa using hu2) fun h' z' TO' h1' h2' hT hsz hk => ?_
    refine ⟨_, rfl, wpAny_letOwnedTupleGo_zip (s := { s with heap := h' }) z' fun h'' z'' sb => ?_⟩
    have hT2 : h''.get? s.heap.objs.size = some { cls := .type "tuple", data := .seq #[u, u2] } := (sb.2 _ (Nat.ne_of_gt hzl)).trans hT
    have new : ObjOk X.prog X.w (upd H s.heap.objs.size (.tup [x, y])) h'' s.heap.objs.size (.tup [x, y]) :=
      ⟨by show 2 ≤ sizeLine; decide, [u, u2], .cons ru (.cons ru2 .nil), ⟨_, hT2, rfl, _, rfl⟩⟩
    have I1 : Inv X pins σ (upd H s.heap.objs.size (.tup [x, y])) { s with heap := h'' } :=
      I.turnedNew (t' := s.toks) (ch := [z, TI, TO, i1, i2]) (fun c o hb q => (sb.2 c (fun q' => hb (by simp [q']))).trans (hk c o (fun q' => hb (by simp [q'])) (fun q' => hb (by simp [q'])) (fun q' => hb (by simp [q'])) (fun q' => hb (by simp [q'])) q)) hf (Nat.le_refl _) new
    refine ⟨.ref s.heap.objs.size, _, I1, rfl, ⟨_, x, y, rfl, I.hok.fresh (Nat.le_refl _), rfl, fun l hl => by rw [I.list_inj hl hqx]; exact hx, fun l hl => by rw [I.list_inj hl hqy]; exact hy⟩, ⟨z'', ?_, ⟨u, u2, ?_⟩, ?_, ?_⟩, fun c hcm => ?_⟩
    · exact (sb.2 _ D.TIz).trans (hk _ _ D.TIz D.TITO D.TIi1 D.TIi2 hTI)
    · exact (sb.2 _ D.TOz).trans TO'
    · exact h1'.at fun o q => (sb.2 _ D.i1z).trans q
    · exact h2'.at fun o q => (sb.2 _ D.i2z).trans q
    · have hlt : c < s.heap.objs.size := by
        have e' : c = z ∨ c = TI ∨ c = TO ∨ c = i1 ∨ c = i2 := by simpa using hcm
        rcases e' with q | q | q | q | q
        · rw [q]; exact hzl
        · rw [q]; exact Heap.lt_size hTI
        · rw [q]; exact Heap.lt_size hTO
        · rw [q]; obtain ⟨_, e1, _⟩ := h1; exact Heap.lt_size e1
        · rw [q]; obtain ⟨_, e2, _⟩ := h2; exact Heap.lt_size e2
      rw [upd_ne (Nat.ne_of_lt hlt)]
      exact (hf c hcm).1
  done := by
    intro X hP hw hK hc i pins s σ H E I hf st hg
    subst hP hw hK
    obtain ⟨hz, hTI, ⟨x0, y0, hTO⟩, h1, h2⟩ := st
    obtain ⟨xs, ys, hqx, hqy, hend⟩ := hg
    obtain ⟨its, rv, p, _⟩ := I.list hqx
    obtain ⟨its2, rv2, p2, _⟩ := I.list hqy
    have l1 := rv.length
    have l2 := rv2.length
    have he : its.toArray[i]? = none ∨ its2.toArray[i]? = none := by
      rcases hend with q | q
      · exact .inl (by simp; omega)
      · exact .inr (by simp; omega)
    exact wpAny_pyNext_zip_end (I.ok.hd hc) D hz hTI hTO h1 h2 p.isList p2.isList he fun h' hk => ⟨rfl, I.turnedL (t' := s.toks) (ch := [z, TI, TO, i1, i2]) (fun c o hb q =>
      hk c o (fun q' => hb (by simp [q'])) (fun q' => hb (by simp [q'])) (fun q' => hb (by simp [q'])) (fun q' => hb (by simp [q'])) q) hf⟩
  self := fun A i s Q E st h => wpAny_pyIter_zip st.1 h
def iZip (K : PySem.W.Frag) (ta : TA) : TI := fun σ H R => ta σ H fun vs H1 => ∃ a b xs ys, vs = [.ref a, .ref b] ∧ SqL K H1 a xs ∧ SqL K H1 b ys ∧ R (Itz K a b) H1
theorem pi_zip {X : Cx} {e e2 : Expr} {ta : TA} {p pos tpos : Pos} {elts : List Expr} {kk : Nat} (hg : Gl X "zip") (hm : X.mg "zip" = none) (ha : PA X [e, e2] ta)
    (hs : starEach [e, e2] X.env = (false, eval e X.env) :: starEach [e2] X.env := by rfl) (hpl : (backTo pos (starEach [e2] X.env)).any (·.1) = false := by rfl) :
    PI X (.Tuple elts kk tpos) (.Call (.Name "zip" p) [e, e2] [] pos) (iZip X.K ta) := by
  intro pins s σ H R I h
  refine Call_ (ld_blt I hg hm boot_zip5 (PyProof.Rows.callWith_type1 (thn (ha pos pins s σ H _ I h) fun us s1 ⟨vs, H1, I1, r1, q1⟩ => ?_) hs hpl))
  obtain ⟨a, b, xs, ys, ex, hqx, hqy, q⟩ := q1
  subst ex
  cases r1 with
  | cons r rr =>
    cases rr with
    | cons r' rr =>
      cases rr
      cases r
      cases r'
      obtain ⟨its, rv, p1, _⟩ := I1.list hqx
      obtain ⟨its2, rv2, p2, _⟩ := I1.list hqy
      have la : a < s1.heap.objs.size := p1.lt
      have lb : b < s1.heap.objs.size := p2.lt
      refine call_zip_2 p1.isList p2.isList fun h' hz hTI hTO h1 h2 hsz hk => wpAny_pyIter_zip hz ?_
      have I2 : Inv X pins σ H1 { s1 with heap := h' } := I1.kept (t' := s1.toks) hk
      refine ⟨s1.heap.objs.size + 4, [s1.heap.objs.size + 4, s1.heap.objs.size + 2, s1.heap.objs.size + 3, s1.heap.objs.size, s1.heap.objs.size + 1], _, _, H1, rfl, I2, turn_zip (PySem.W.ktu_apart s1.heap.objs.size a b la lb), ⟨hz, hTI, ⟨_, _, hTO⟩, h1, h2⟩, fun c hcm => ?_, q⟩
      have e' : c = s1.heap.objs.size + 4 ∨ c = s1.heap.objs.size + 2 ∨ c = s1.heap.objs.size + 3 ∨ c = s1.heap.objs.size ∨ c = s1.heap.objs.size + 1 := by simpa using hcm
      have hle : s1.heap.objs.size ≤ c := by
        rcases e' with z | z | z | z | z
        · rw [z]; exact Nat.le_add_right _ _
        · rw [z]; exact Nat.le_add_right _ _
        · rw [z]; exact Nat.le_add_right _ _
        · rw [z]; exact Nat.le_refl _
        · rw [z]; exact Nat.le_add_right _ _
      exact I1.fpOk hle (I1.hok.fresh hle)
end L2

section 
namespace Bits
open PySem PyProof.Rows

theorem nat_and_mul_pow (k : Nat) : ∀ a b : Nat, a < 2 ^ k → a &&& (b * 2 ^ k) = 0 := by
  induction k with
  | zero =>
    intro a b h
    have h0 : a = 0 := by
      rw [Nat.pow_zero] at h
      omega
    subst h0
    simp
  | succ k ih =>
    intro a b h
    have hm : (b * 2 ^ (k + 1)) = (b * 2 ^ k) * 2 := by rw [Nat.pow_succ, Nat.mul_assoc]
    have hlt : a / 2 < 2 ^ k := by
      rw [Nat.pow_succ] at h
      generalize 2 ^ k = m at h ⊢
      omega
    have i := ih (a / 2) b hlt
    rw [hm]
    generalize b * 2 ^ k = B at i ⊢
    have e : (a &&& (B * 2)) / 2 = a / 2 &&& (B * 2) / 2 := Nat.and_div_two
    have e2 : (B * 2) / 2 = B := by omega
    have o := @Nat.and_mod_two_eq_one a (B * 2)
    rw [e2, i] at e
    omega

theorem natCast_mul_pow (m k : Nat) : (m : Int) * 2 ^ k = ((m * 2 ^ k : Nat) : Int) := by
  rw [two_pow_cast]
  first
    | exact (Int.natCast_mul _ _).symm
    | simp

/-- low bits a, high part b: (b << k) | a -/
theorem bitOr_join {a b : Int} {k : Nat} (h0 : 0 ≤ a) (h1 : a < 2 ^ k) (hb : 0 ≤ b) : Builtin.bitOr a (b * 2 ^ k) = a + b * 2 ^ k := by
  obtain ⟨n, rfl⟩ := Int.eq_ofNat_of_zero_le h0
  obtain ⟨m, rfl⟩ := Int.eq_ofNat_of_zero_le hb
  have hn : n < 2 ^ k := by
    rw [two_pow_cast] at h1
    omega
  have e : Builtin.bitAnd (n : Int) ((m * 2 ^ k : Nat) : Int) = 0 := by
    rw [bitAnd_pp (by omega) (by omega), Int.toNat_natCast, Int.toNat_natCast, nat_and_mul_pow k n m hn] <;> rfl
  rw [natCast_mul_pow, bitOr_and, e]
  omega
theorem bitOr_join' {a b : Int} {k : Nat} (h0 : 0 ≤ a) (h1 : a < 2 ^ k) (hb : 0 ≤ b) : Builtin.bitOr (b * 2 ^ k) a = a + b * 2 ^ k := by
  rw [bitOr_comm]
  exact bitOr_join h0 h1 hb

/-- x & ((1 << k) - 1) -/
theorem bitAnd_mask {x : Int} (k : Nat) (hx : 0 ≤ x) : Builtin.bitAnd x (2 ^ k - 1) = x % 2 ^ k := by
  obtain ⟨n, rfl⟩ := Int.eq_ofNat_of_zero_le hx
  have hp : 0 < 2 ^ k := Nat.two_pow_pos k
  rw [two_pow_cast]
  have e : ((2 ^ k : Nat) : Int) - 1 = ((2 ^ k - 1 : Nat) : Int) := by
    generalize (2 : Nat) ^ k = m at hp
    omega
  rw [e, bitAnd_pp (by omega) (by omega), Int.toNat_natCast, Int.toNat_natCast, Nat.and_two_pow_sub_one_eq_mod]
  first
    | rfl
    | exact Int.natCast_emod _ _
    | simp

/-- (x >> i) & 1 -/
theorem bit_at {x : Int} (i : Nat) : Builtin.bitAnd (x.fdiv (2 ^ i)) 1 = x / 2 ^ i % 2 := by
  have hp : (0 : Int) ≤ 2 ^ i := by
    rw [two_pow_cast]
    exact Int.natCast_nonneg _
  rw [Int.fdiv_eq_ediv_of_nonneg _ hp, bitAnd_m1]

theorem nat_xor_add_and (m : Nat) : ∀ n : Nat, (m ^^^ n) + 2 * (m &&& n) = m + n := by
  induction m using Nat.strongRecOn with
  | _ m ih =>
    intro n
    by_cases h0 : m = 0
    · subst h0
      simp
    · have ih' := ih (m / 2) (by omega) (n / 2)
      rw [← Nat.xor_div_two, ← Nat.and_div_two] at ih'
      have o1 := @Nat.xor_mod_two_eq_one m n
      have a1 := @Nat.and_mod_two_eq_one m n
      omega

theorem bitXor_pp {x y : Int} (hx : 0 ≤ x) (hy : 0 ≤ y) : Builtin.bitXor x y = ((x.toNat ^^^ y.toNat : Nat) : Int) := by
  have e := nat_xor_add_and x.toNat y.toNat
  rw [bitXor_and, bitAnd_pp hx hy]
  omega
theorem bitOr_pp {x y : Int} (hx : 0 ≤ x) (hy : 0 ≤ y) : Builtin.bitOr x y = ((x.toNat ||| y.toNat : Nat) : Int) := by
  have e := nat_or_add_and x.toNat y.toNat
  rw [bitOr_and, bitAnd_pp hx hy]
  omega
theorem bitXor_nonneg {x y : Int} (hx : 0 ≤ x) (hy : 0 ≤ y) : 0 ≤ Builtin.bitXor x y := by
  rw [bitXor_pp hx hy]
  omega
theorem bitOr_nonneg {x y : Int} (hx : 0 ≤ x) (hy : 0 ≤ y) : 0 ≤ Builtin.bitOr x y := by
  rw [bitOr_pp hx hy]
  omega

end Bits
end 

section 
namespace TL
open PySem PySem.Builtin PySem.Builtin.Str PySem.StrLaws

abbrev tl (x : Str) : List Nat := x.cps.toList
theorem len_tl (x : Str) : x.length = (tl x).length := by simp [tl, Str.length]
theorem ext_tl {x y : Str} (h : tl x = tl y) : x = y := Str.ext' (Array.toList_inj.mp h)
theorem tl_append (x y : Str) : tl (x ++ y) = tl x ++ tl y := by
  show (x ++ y).cps.toList = _
  rw [Str.cps_append, Array.toList_append]
theorem tl_mk (l : List Nat) : tl ⟨l.toArray⟩ = l := rfl
theorem mk_tl (x : Str) : (⟨(tl x).toArray⟩ : Str) = x := ext_tl rfl
theorem map_tl_inj : ∀ {l m : List Str}, l.map tl = m.map tl → l = m
  | [], [], _ => rfl
  | [], _ :: _, h => by simp at h
  | _ :: _, [], h => by simp at h
  | x :: l, y :: m, h => by
    rw [List.map_cons, List.map_cons] at h
    injection h with h1 h2
    rw [ext_tl h1, map_tl_inj h2]
theorem tl_ofString (s : String) : tl (Str.ofString s) = s.toList.map Char.toNat := PyProof.Rows.signs_ofString s

/-! ### the list functions -/
/-- S stands at the head of l -/
def pre (S l : List Nat) : Bool := l.take S.length == S
/-- l cut at each S from the left; k signs are still to be passed over -/
def spl (S : List Nat) : Nat → List Nat → List Nat → List (List Nat)
  | _, acc, [] => [acc]
  | 0, acc, c :: r => if pre S (c :: r) = true then acc :: spl S (S.length - 1) [] r else spl S 0 (acc ++ [c]) r
  | k + 1, acc, _ :: r => spl S k acc r
/-- what stands before the first S, and behind it -/
def par (S : List Nat) : List Nat → List Nat → Option (List Nat × List Nat)
  | _, [] => none
  | acc, c :: r => if pre S (c :: r) = true then some (acc, (c :: r).drop S.length) else par S (acc ++ [c]) r

theorem spl_nil (S : List Nat) (k : Nat) (acc : List Nat) : spl S k acc [] = [acc] := by cases k <;> rfl
theorem spl_hit {S acc r : List Nat} {c : Nat} (h : pre S (c :: r) = true) : spl S 0 acc (c :: r) = acc :: spl S (S.length - 1) [] r := by
  show (if pre S (c :: r) = true then acc :: spl S (S.length - 1) [] r else spl S 0 (acc ++ [c]) r) = _
  rw [if_pos h]
theorem spl_miss {S acc r : List Nat} {c : Nat} (h : pre S (c :: r) = false) : spl S 0 acc (c :: r) = spl S 0 (acc ++ [c]) r := by
  show (if pre S (c :: r) = true then acc :: spl S (S.length - 1) [] r else spl S 0 (acc ++ [c]) r) = _
  rw [if_neg (by rw [h]; exact Bool.false_ne_true)]
theorem spl_pass (S : List Nat) : ∀ (k : Nat) (acc l : List Nat), spl S k acc l = spl S 0 acc (l.drop k)
  | 0, _, _ => by rw [List.drop_zero]
  | k + 1, acc, [] => by rw [List.drop_nil, spl_nil, spl_nil]
  | k + 1, acc, c :: r => by
    show spl S k acc r = spl S 0 acc (r.drop k)
    exact spl_pass S k acc r
theorem par_hit {S acc r : List Nat} {c : Nat} (h : pre S (c :: r) = true) : par S acc (c :: r) = some (acc, (c :: r).drop S.length) := by
  show (if pre S (c :: r) = true then some (acc, (c :: r).drop S.length) else par S (acc ++ [c]) r) = _
  rw [if_pos h]
theorem par_miss {S acc r : List Nat} {c : Nat} (h : pre S (c :: r) = false) : par S acc (c :: r) = par S (acc ++ [c]) r := by
  show (if pre S (c :: r) = true then some (acc, (c :: r).drop S.length) else par S (acc ++ [c]) r) = _
  rw [if_neg (by rw [h]; exact Bool.false_ne_true)]

theorem pre_nil {S : List Nat} (hS : S ≠ []) : pre S [] = false := by
  cases S with
  | nil => exact absurd rfl hS
  | cons s S => rfl
theorem pre_of_head {s c : Nat} (S r : List Nat) (h : c ≠ s) : pre (s :: S) (c :: r) = false := by
  cases hp : pre (s :: S) (c :: r) with
  | false => rfl
  | true =>
    have e : (c :: r).take (s :: S).length = s :: S := eq_of_beq hp
    rw [List.length_cons, List.take_succ_cons] at e
    injection e with e1 e2
    exact absurd e1 h
theorem pre_self (S r : List Nat) : pre S (S ++ r) = true := by
  show ((S ++ r).take S.length == S) = true
  have e : (S ++ r).take S.length = S := List.take_left
  rw [e] <;> exact beq_self_eq_true S

theorem getElem_drop_cons {L : List Nat} {a : Nat} (h : a < L.length) : ∃ c, L.drop a = c :: L.drop (a + 1) := ⟨L[a], List.drop_eq_getElem_cons h⟩
theorem spl_run (S L : List Nat) : ∀ (m a : Nat) (acc : List Nat), a + m ≤ L.length → (∀ k, a ≤ k → k < a + m → pre S (L.drop k) = false) →
    spl S 0 acc (L.drop a) = spl S 0 (acc ++ (L.drop a).take m) (L.drop (a + m))
  | 0, a, acc, _, _ => by rw [List.take_zero, List.append_nil, Nat.add_zero]
  | m + 1, a, acc, h, hn => by
    have hlt : a < L.length := by omega
    obtain ⟨c, e⟩ := getElem_drop_cons hlt
    have h0 := hn a (Nat.le_refl _) (by omega)
    have ih := spl_run S L m (a + 1) (acc ++ [c]) (by omega) (fun k h1 h2 => hn k (by omega) (by omega))
    have e2 : a + 1 + m = a + (m + 1) := by omega
    rw [e2] at ih
    rw [e] at h0
    rw [e, spl_miss h0, ih, List.take_succ_cons, List.append_assoc] <;> rfl
theorem par_run (S L : List Nat) : ∀ (m a : Nat) (acc : List Nat), a + m ≤ L.length → (∀ k, a ≤ k → k < a + m → pre S (L.drop k) = false) →
    par S acc (L.drop a) = par S (acc ++ (L.drop a).take m) (L.drop (a + m))
  | 0, a, acc, _, _ => by rw [List.take_zero, List.append_nil, Nat.add_zero]
  | m + 1, a, acc, h, hn => by
    have hlt : a < L.length := by omega
    obtain ⟨c, e⟩ := getElem_drop_cons hlt
    have h0 := hn a (Nat.le_refl _) (by omega)
    have ih := par_run S L m (a + 1) (acc ++ [c]) (by omega) (fun k h1 h2 => hn k (by omega) (by omega))
    have e2 : a + 1 + m = a + (m + 1) := by omega
    rw [e2] at ih
    rw [e] at h0
    rw [e, par_miss h0, ih, List.take_succ_cons, List.append_assoc] <;> rfl
theorem drop_two (L : List Nat) (a b : Nat) : (L.drop a).drop b = L.drop (a + b) := by
  first
    | rw [List.drop_drop]
    | rw [List.drop_drop, Nat.add_comm]
theorem spl_at {S L : List Nat} (hS : S ≠ []) {c : Nat} {acc : List Nat} (h : pre S (L.drop c) = true) : spl S 0 acc (L.drop c) = acc :: spl S 0 [] (L.drop (c + S.length)) := by
  rw [← drop_two]
  cases e : L.drop c with
  | nil => rw [e, pre_nil hS] at h; cases h
  | cons d r =>
    rw [e] at h
    rw [spl_hit h, spl_pass]
    cases S with
    | nil => exact absurd rfl hS
    | cons s S => rfl
theorem par_at {S L : List Nat} (hS : S ≠ []) {c : Nat} {acc : List Nat} (h : pre S (L.drop c) = true) : par S acc (L.drop c) = some (acc, L.drop (c + S.length)) := by
  rw [← drop_two]
  cases e : L.drop c with
  | nil => rw [e, pre_nil hS] at h; cases h
  | cons d r =>
    rw [e] at h
    rw [par_hit h]

/-! ### the model's split and partition are these -/
theorem at_iff {x y : Str} (hy : tl y ≠ []) (i : Nat) : At x y x.length i ↔ pre (tl y) ((tl x).drop i) = true := by
  have hx := len_tl x
  have hl := len_tl y
  constructor
  · intro h
    have h2 := h.2
    rw [subAt_eq, hl] at h2
    exact h2
  · intro h
    have e : ((tl x).drop i).take (tl y).length = tl y := eq_of_beq h
    have e1 := congrArg List.length e
    rw [List.length_take, List.length_drop] at e1
    have e2 : 0 < (tl y).length := List.length_pos_iff.mpr hy
    refine ⟨by omega, ?_⟩
    rw [subAt_eq, hl]
    exact h
theorem no_at {x y : Str} (hy : tl y ≠ []) {i : Nat} (h : ¬ At x y x.length i) : pre (tl y) ((tl x).drop i) = false := by
  cases hp : pre (tl y) ((tl x).drop i) with
  | false => rfl
  | true => exact absurd ((at_iff hy i).mpr hp) h
theorem len1 {y : Str} (hy : tl y ≠ []) : 1 ≤ y.length := by
  have e2 : 0 < (tl y).length := List.length_pos_iff.mpr hy
  rw [len_tl y]
  exact e2
theorem tl_strSub (x : Str) (i j : Nat) : tl (strSub x i j) = ((tl x).drop i).take (j - i) := strSub_toList x i j
theorem tl_strSub_end (x : Str) (i : Nat) : tl (strSub x i x.length) = (tl x).drop i := by
  rw [tl_strSub, len_tl x]
  exact List.take_of_length_le (by rw [List.length_drop] <;> omega)

theorem parts_spl {x y : Str} (hy : tl y ≠ []) : ∀ (cuts : List Nat) (a f : Nat), a ≤ (tl x).length → ChainG x y x.length a cuts f → (∀ k, f ≤ k → ¬ At x y x.length k) →
    (partsFrom x y.length a cuts).map tl = spl (tl y) 0 [] ((tl x).drop a)
  | [], a, f, ha, h, hn => by
    have e : f = a := h
    subst e
    show [tl (strSub x f x.length)] = _
    have run := spl_run (tl y) (tl x) ((tl x).length - f) f [] (by omega) (fun k h1 _ => no_at hy (hn k h1))
    have e2 : f + ((tl x).length - f) = (tl x).length := by omega
    rw [e2, List.drop_length, spl_nil, List.nil_append, List.take_of_length_le (by rw [List.length_drop] <;> omega)] at run
    rw [run, tl_strSub_end]
  | c :: r, a, f, ha, h, hn => by
    obtain ⟨h1, h2, h3, h4⟩ := h
    have hc : c + y.length ≤ x.length := h2.1
    have hx := len_tl x
    have hl := len_tl y
    have ih := parts_spl hy r (c + y.length) f (by omega) h4 hn
    show tl (strSub x a c) :: (partsFrom x y.length (c + y.length) r).map tl = _
    have run := spl_run (tl y) (tl x) (c - a) a [] (by omega) (fun k k1 k2 => no_at hy (h3 k k1 (by omega)))
    have e2 : a + (c - a) = c := by omega
    rw [e2, List.nil_append, spl_at hy ((at_iff hy c).mp h2)] at run
    rw [run, ih, tl_strSub, hl]

/-- hk: by kind_ok where the separator is plain -/
theorem split_spl (x y : Str) (hy : tl y ≠ []) (hk : ¬ Builtin.Str.strKind x < Builtin.Str.strKind y) : (Txt.split x y).map tl = spl (tl y) 0 [] (tl x) := by
  obtain ⟨f, g, hn⟩ := occ_tight x y (len1 hy)
  have key := parts_spl hy _ 0 f (Nat.zero_le _) g hn
  rw [List.drop_zero] at key
  have none_case : occurrences x y 0 x.length (x.length + 1) = [] → [x].map tl = spl (tl y) 0 [] (tl x) := fun ho => by
    rw [ho] at key
    rw [← key]
    show [tl x] = [tl (strSub x 0 x.length)]
    rw [sub_whole]
  unfold Txt.split
  by_cases h1 : (decide (x.length < y.length) || decide (Builtin.Str.strKind x < Builtin.Str.strKind y)) = true
  · rw [if_pos h1]
    have hlt : x.length < y.length := by
      simp only [Bool.or_eq_true, decide_eq_true_eq] at h1
      rcases h1 with h | h
      · exact h
      · exact absurd h hk
    refine none_case ?_
    cases ho : occurrences x y 0 x.length (x.length + 1) with
    | nil => rfl
    | cons c r =>
      rw [ho] at g
      have hc : c + y.length ≤ x.length := g.2.1.1
      omega
  · rw [if_neg h1]
    by_cases h2 : (occurrences x y 0 x.length (x.length + 1)).isEmpty = true
    · rw [if_pos h2]
      exact none_case (List.isEmpty_iff.mp h2)
    · rw [if_neg h2, partsBetween_eq]
      exact key
theorem kind_ok {x y : Str} (h : y.cps.all (· < 256) = true) : ¬ Builtin.Str.strKind x < Builtin.Str.strKind y := by
  have e : Builtin.Str.strKind y = 1 := by unfold PySem.Builtin.Str.strKind; rw [if_pos h]
  rw [e]
  unfold PySem.Builtin.Str.strKind
  split
  · omega
  · split <;> omega

theorem partition_par (x y : Str) (hy : tl y ≠ []) :
    Txt.partition x y = (match par (tl y) [] (tl x) with | some (a, b) => (⟨a.toArray⟩, y, ⟨b.toArray⟩) | none => (x, Str.empty, Str.empty)) := by
  have hx := len_tl x
  have hl := len_tl y
  rcases PyProof.Rows.partition_whole x y with ⟨e, hn⟩ | ⟨i, e, hi, hn⟩
  · have run := par_run (tl y) (tl x) (tl x).length 0 [] (by omega) (fun k _ _ => no_at hy (hn k))
    rw [List.drop_zero, Nat.zero_add, List.drop_length] at run
    rw [e, run] <;> rfl
  · have hb : i + y.length ≤ x.length := hi.1
    have run := par_run (tl y) (tl x) i 0 [] (by omega) (fun k _ k2 => no_at hy (hn k (by omega)))
    rw [List.drop_zero, Nat.zero_add, List.nil_append, par_at hy ((at_iff hy i).mp hi)] at run
    rw [e, run]
    have e1 : strSub x 0 i = ⟨((tl x).take i).toArray⟩ := ext_tl (by rw [tl_strSub, List.drop_zero, Nat.sub_zero])
    have e2 : strSub x (i + y.length) x.length = ⟨((tl x).drop (i + (tl y).length)).toArray⟩ := ext_tl (by rw [tl_strSub_end, hl])
    rw [e1, e2] <;> rfl

/-! ### computing spl and par -/
/-- a part that the separator does not begin in, then the separator -/
theorem spl_part {S p rest acc : List Nat} (hS : S ≠ []) (h : ∀ i, i < p.length → pre S ((p ++ (S ++ rest)).drop i) = false) :
    spl S 0 acc (p ++ (S ++ rest)) = (acc ++ p) :: spl S 0 [] rest := by
  have run := spl_run S (p ++ (S ++ rest)) p.length 0 acc (by rw [List.length_append]; omega) (fun k _ k2 => h k (by omega))
  have ed : (p ++ (S ++ rest)).drop p.length = S ++ rest := List.drop_left
  rw [List.drop_zero, Nat.zero_add, List.take_left] at run
  rw [run, spl_at hS (by rw [ed]; exact pre_self S rest), ← drop_two, ed, List.drop_left]
theorem spl_last {S p acc : List Nat} (h : ∀ i, i < p.length → pre S (p.drop i) = false) : spl S 0 acc p = [acc ++ p] := by
  have run := spl_run S p p.length 0 acc (by omega) (fun k _ k2 => h k (by omega))
  rw [List.drop_zero, Nat.zero_add, List.drop_length, spl_nil, List.take_length] at run
  exact run
theorem par_part {S p rest acc : List Nat} (hS : S ≠ []) (h : ∀ i, i < p.length → pre S ((p ++ (S ++ rest)).drop i) = false) :
    par S acc (p ++ (S ++ rest)) = some (acc ++ p, rest) := by
  have run := par_run S (p ++ (S ++ rest)) p.length 0 acc (by rw [List.length_append]; omega) (fun k _ k2 => h k (by omega))
  have ed : (p ++ (S ++ rest)).drop p.length = S ++ rest := List.drop_left
  rw [List.drop_zero, Nat.zero_add, List.take_left] at run
  rw [run, par_at hS (by rw [ed]; exact pre_self S rest), ← drop_two, ed, List.drop_left]
theorem par_none {S p acc : List Nat} (h : ∀ i, i < p.length → pre S (p.drop i) = false) : par S acc p = none := by
  have run := par_run S p p.length 0 acc (by omega) (fun k _ k2 => h k (by omega))
  rw [List.drop_zero, Nat.zero_add, List.drop_length] at run
  exact run
/-- the separator's first sign is not in the part -/
theorem free_of {s : Nat} {S p q : List Nat} (h : s ∉ p) : ∀ i, i < p.length → pre (s :: S) ((p ++ q).drop i) = false := fun i hi => by
  have hlt : i < (p ++ q).length := by rw [List.length_append]; omega
  have e : (p ++ q).drop i = (p ++ q)[i] :: (p ++ q).drop (i + 1) := List.drop_eq_getElem_cons hlt
  rw [e]
  refine pre_of_head _ _ fun z => h ?_
  have e1 : (p ++ q)[i] = p[i] := List.getElem_append_left hi
  rw [← z, e1]
  exact List.getElem_mem hi
theorem spl_part1 {s : Nat} {S p rest acc : List Nat} (h : s ∉ p) : spl (s :: S) 0 acc (p ++ (s :: S ++ rest)) = (acc ++ p) :: spl (s :: S) 0 [] rest :=
  spl_part (by simp) (free_of h)
theorem spl_last1 {s : Nat} {S p acc : List Nat} (h : s ∉ p) : spl (s :: S) 0 acc p = [acc ++ p] := spl_last fun i hi => by
  have z := free_of (S := S) (q := []) h i hi
  rw [List.append_nil] at z
  exact z
theorem par_part1 {s : Nat} {S p rest acc : List Nat} (h : s ∉ p) : par (s :: S) acc (p ++ (s :: S ++ rest)) = some (acc ++ p, rest) := par_part (by simp) (free_of h)
theorem par_none1 {s : Nat} {S p acc : List Nat} (h : s ∉ p) : par (s :: S) acc p = none := par_none fun i hi => by
  have z := free_of (S := S) (q := []) h i hi
  rw [List.append_nil] at z
  exact z

/-- joined lists -/
def joinL (S : List Nat) : List (List Nat) → List Nat
  | [] => []
  | [p] => p
  | p :: q :: r => p ++ (S ++ joinL S (q :: r))
theorem tl_join (y : Str) : ∀ parts : List Str, tl (Str.join y parts) = joinL (tl y) (parts.map tl)
  | [] => rfl
  | [_] => rfl
  | x :: z :: r => by
    show tl (x ++ y ++ Str.join y (z :: r)) = tl x ++ (tl y ++ joinL (tl y) ((z :: r).map tl))
    rw [tl_append, tl_append, tl_join y (z :: r), List.append_assoc]
theorem spl_join {s : Nat} {S : List Nat} : ∀ {parts : List (List Nat)}, parts ≠ [] → (∀ p ∈ parts, s ∉ p) → spl (s :: S) 0 [] (joinL (s :: S) parts) = parts
  | [], h, _ => absurd rfl h
  | [p], _, hp => by
    show spl (s :: S) 0 [] p = [p]
    rw [spl_last1 (hp p (List.mem_singleton.mpr rfl)), List.nil_append]
  | p :: q :: r, _, hp => by
    show spl (s :: S) 0 [] (p ++ (s :: S ++ joinL (s :: S) (q :: r))) = p :: q :: r
    rw [spl_part1 (hp p (List.mem_cons_self ..)), List.nil_append, spl_join (by simp) fun z hz => hp z (List.mem_cons_of_mem _ hz)]
theorem join_eq (y : Str) (parts : List Str) : Txt.join y parts = Str.join y parts := glued_eq_join y parts
/-- THE READ-BACK: a joined text, split -/
theorem split_join {y : Str} {s : Nat} {S : List Nat} (ey : tl y = s :: S) (hk : y.cps.all (· < 256) = true) {parts : List Str} (hne : parts ≠ []) (hp : ∀ p ∈ parts, s ∉ tl p) :
    Txt.split (Txt.join y parts) y = parts := by
  refine map_tl_inj ?_
  rw [split_spl _ y (by rw [ey]; simp) (kind_ok hk), join_eq, tl_join, ey]
  refine spl_join (fun e => hne (List.map_eq_nil_iff.mp e)) fun p h => ?_
  obtain ⟨z, hz, rfl⟩ := List.mem_map.mp h
  exact hp z hz
/-- a text cut at its first separator -/
theorem partition_app {y : Str} {s : Nat} {S : List Nat} (ey : tl y = s :: S) {a b : Str} (h : s ∉ tl a) : Txt.partition (a ++ y ++ b) y = (a, y, b) := by
  rw [partition_par _ y (by rw [ey]; simp), tl_append, tl_append, List.append_assoc, ey, par_part1 h]
  show ((⟨([] ++ tl a).toArray⟩ : Str), y, (⟨(tl b).toArray⟩ : Str)) = _
  rw [List.nil_append, mk_tl, mk_tl]
theorem partition_none {y : Str} {s : Nat} {S : List Nat} (ey : tl y = s :: S) {a : Str} (h : s ∉ tl a) : Txt.partition a y = (a, Str.empty, Str.empty) := by
  rw [partition_par _ y (by rw [ey]; simp), ey, par_none1 h]

/-! ### digits -/
/-- the signs of a number -/
def numL (n : Nat) : List Nat := (Nat.toDigits 10 n).map Char.toNat
theorem tl_num (n : Nat) : tl (Str.ofString (toString ((n : Nat) : Int))) = numL n := PySem.W.KIN.signs_num n
theorem digitChar_nat : ∀ d : Nat, d < 10 → (Nat.digitChar d).toNat = 48 + d := by decide
theorem numL_lt {n : Nat} (h : n < 10) : numL n = [48 + n] := by
  unfold numL
  rw [Nat.toDigits_of_lt_base h]
  show [(Nat.digitChar n).toNat] = _
  rw [digitChar_nat n h]
theorem numL_step {n : Nat} (h : 10 ≤ n) : numL n = numL (n / 10) ++ [48 + n % 10] := by
  have hm : n % 10 < 10 := Nat.mod_lt n (by decide)
  have t : Nat.toDigits 10 (n / 10) ++ Nat.toDigits 10 (n % 10) = Nat.toDigits 10 (10 * (n / 10) + n % 10) := Nat.toDigits_append_toDigits (by decide) (by omega) hm
  rw [Nat.div_add_mod] at t
  show (Nat.toDigits 10 n).map Char.toNat = _
  rw [← t, List.map_append, Nat.toDigits_of_lt_base hm]
  show (Nat.toDigits 10 (n / 10)).map Char.toNat ++ [(Nat.digitChar (n % 10)).toNat] = _
  rw [digitChar_nat _ hm] <;> rfl
theorem numL_digits (n : Nat) : NumText.AllDigits (numL n) := by
  induction n using Nat.strongRecOn with
  | _ n ih =>
    by_cases h : n < 10
    · rw [numL_lt h]
      intro c hc
      rw [List.mem_singleton.mp hc]
      omega
    · rw [numL_step (by omega)]
      intro c hc
      rcases List.mem_append.mp hc with hc | hc
      · exact ih (n / 10) (by omega) c hc
      · have hm : n % 10 < 10 := Nat.mod_lt n (by decide)
        rw [List.mem_singleton.mp hc]
        omega
theorem numL_ne (n : Nat) : numL n ≠ [] := by
  by_cases h : n < 10
  · rw [numL_lt h]
    simp
  · rw [numL_step (by omega)]
    simp
theorem numL_free {n s : Nat} (h : s < 48 ∨ 57 < s) : s ∉ numL n := fun hm => by
  have r := numL_digits n s hm
  omega
theorem numL_val (n : Nat) : NumText.digitsVal (numL n) = n := PySem.W.KIN.val_back n
theorem numL_inj {m n : Nat} (h : numL m = numL n) : m = n := by
  have e := congrArg NumText.digitsVal h
  rw [numL_val, numL_val] at e
  exact e
theorem numL_len {n k : Nat} (hk : 0 < k) (h : n < 10 ^ k) : (numL n).length ≤ k := by
  have z := PyProof.Rows.toString_length_le (v := (n : Int)) (by omega) hk (by
    have e : ((10 : Int) ^ k) = ((10 ^ k : Nat) : Int) := by
      first
        | exact (Int.natCast_pow 10 k).symm
        | simp
    rw [e]
    first | exact Int.ofNat_lt.mpr h | omega)
  rw [len_tl, tl_num] at z
  exact z
/-- int(str(n)) -/
theorem int_num {n : Nat} (h : (numL n).length ≤ 4300) : intText? (Str.ofString (toString ((n : Nat) : Int))) = some (n : Int) := by
  have e := intText_digits (x := Str.ofString (toString ((n : Nat) : Int))) (by rw [show (Str.ofString (toString ((n : Nat) : Int))).cps.toList = numL n from tl_num n]; exact numL_digits n)
    (by rw [show (Str.ofString (toString ((n : Nat) : Int))).cps.toList = numL n from tl_num n]; exact numL_ne n) (by rw [len_tl, tl_num]; exact h)
  rw [show (Str.ofString (toString ((n : Nat) : Int))).cps.toList = numL n from tl_num n, numL_val] at e
  exact e
/-- a program's own loop over digits: total = total * 10 + (ord(sign) - ord("0")) -/
theorem fold_digits : ∀ (l : List Nat) (a : Nat), NumText.AllDigits l → l.foldl (fun (t : Int) (c : Nat) => t * 10 + ((c : Int) - 48)) (a : Int) = ((l.foldl (fun acc c => acc * 10 + (c - 48)) a : Nat) : Int)
  | [], _, _ => rfl
  | c :: r, a, h => by
    have hc := h.head
    rw [List.foldl_cons, List.foldl_cons, ← fold_digits r _ h.tail]
    have e : (a : Int) * 10 + ((c : Int) - 48) = ((a * 10 + (c - 48) : Nat) : Int) := by omega
    rw [e]
theorem fold_num (n : Nat) : (numL n).foldl (fun (t : Int) (c : Nat) => t * 10 + ((c : Int) - 48)) 0 = (n : Int) := by
  have e := fold_digits (numL n) 0 (numL_digits n)
  have v := numL_val n
  unfold NumText.digitsVal at v
  rw [v] at e
  exact e

/-! ### words: x.split() -/
def wstep (st : List (List Nat) × List Nat) (c : Nat) : List (List Nat) × List Nat :=
  if Unicode.isSpace c = true then (if st.2 = [] then st else (st.1 ++ [st.2], [])) else (st.1, st.2 ++ [c])
def wfin (st : List (List Nat) × List Nat) : List (List Nat) := if st.2 = [] then st.1 else st.1 ++ [st.2]
theorem len0_tl (x : Str) : x.length = 0 ↔ tl x = [] := by
  rw [len_tl]
  exact List.length_eq_zero_iff
theorem step_tl (ws : List Str) (u : Str) (c : Nat) : ((KWd.step (ws, u) c).1.map tl, tl (KWd.step (ws, u) c).2) = wstep (ws.map tl, tl u) c := by
  by_cases hc : Unicode.isSpace c = true
  · by_cases hu : u.length = 0
    · have a : KWd.step (ws, u) c = (ws, u) := (if_pos hc).trans (if_pos hu)
      have b : wstep (ws.map tl, tl u) c = (ws.map tl, tl u) := (if_pos hc).trans (if_pos ((len0_tl u).mp hu))
      rw [a, b] <;> rfl
    · have a : KWd.step (ws, u) c = (ws ++ [u], Str.empty) := (if_pos hc).trans (if_neg hu)
      have b : wstep (ws.map tl, tl u) c = (ws.map tl ++ [tl u], []) := (if_pos hc).trans (if_neg fun z => hu ((len0_tl u).mpr z))
      rw [a, b]
      show ((ws ++ [u]).map tl, ([] : List Nat)) = _
      rw [List.map_append] <;> rfl
  · have a : KWd.step (ws, u) c = (ws, u ++ ⟨#[c]⟩) := if_neg hc
    have b : wstep (ws.map tl, tl u) c = (ws.map tl, tl u ++ [c]) := if_neg hc
    rw [a, b]
    show (ws.map tl, tl (u ++ ⟨#[c]⟩)) = _
    rw [tl_append] <;> rfl
theorem scan_tl : ∀ (l : List Nat) (st : KWd.St), ((l.foldl KWd.step st).1.map tl, tl (l.foldl KWd.step st).2) = l.foldl wstep (st.1.map tl, tl st.2)
  | [], _ => rfl
  | c :: r, (ws, u) => by
    show ((r.foldl KWd.step (KWd.step (ws, u) c)).1.map tl, tl (r.foldl KWd.step (KWd.step (ws, u) c)).2) = r.foldl wstep (wstep (ws.map tl, tl u) c)
    exact (scan_tl r (KWd.step (ws, u) c)).trans (congrArg (fun z => r.foldl wstep z) (step_tl ws u c))
theorem fin_tl : ∀ q : KWd.St, (KWd.fin q).map tl = wfin (q.1.map tl, tl q.2)
  | (ws, u) => by
    show (if u.length = 0 then ws else ws ++ [u]).map tl = (if tl u = [] then ws.map tl else ws.map tl ++ [tl u])
    by_cases hu : u.length = 0
    · rw [if_pos hu, if_pos ((len0_tl u).mp hu)]
    · rw [if_neg hu, if_neg (fun z => hu ((len0_tl u).mpr z)), List.map_append] <;> rfl
theorem words_tl (x : Str) : (Txt.words x).map tl = wfin ((tl x).foldl wstep ([], [])) := by
  rw [KWd.words_scan]
  exact (fin_tl (KWd.scan x)).trans (congrArg wfin (scan_tl (tl x) ([], Str.empty)))
/-- a run of signs that are no blanks -/
theorem wfold_word : ∀ (p : List Nat) (ws : List (List Nat)) (u : List Nat), (∀ c ∈ p, Unicode.isSpace c = false) → p.foldl wstep (ws, u) = (ws, u ++ p)
  | [], ws, u, _ => by rw [List.append_nil] <;> rfl
  | c :: r, ws, u, h => by
    have hc := h c (List.mem_cons_self ..)
    rw [List.foldl_cons]
    have e : wstep (ws, u) c = (ws, u ++ [c]) := if_neg (by rw [hc]; exact Bool.false_ne_true)
    rw [e, wfold_word r ws (u ++ [c]) fun d hd => h d (List.mem_cons_of_mem _ hd), List.append_assoc] <;> rfl
theorem isSpace_plain {c : Nat} (h1 : 33 ≤ c) (h2 : c ≤ 126) : Unicode.isSpace c = false := PySem.W.KWk.nosp h1 h2
/-- words joined by one blank -/
theorem wfold_join : ∀ (ps : List (List Nat)) (ws : List (List Nat)), ps ≠ [] → (∀ p ∈ ps, p ≠ [] ∧ ∀ c ∈ p, Unicode.isSpace c = false) → wfin ((joinL [32] ps).foldl wstep (ws, [])) = ws ++ ps
  | [], _, h, _ => absurd rfl h
  | [p], ws, _, h => by
    obtain ⟨h1, h2⟩ := h p (List.mem_singleton.mpr rfl)
    show wfin (p.foldl wstep (ws, [])) = _
    rw [wfold_word p ws [] h2, List.nil_append]
    exact if_neg h1
  | p :: q :: r, ws, _, h => by
    obtain ⟨h1, h2⟩ := h p (List.mem_cons_self ..)
    show wfin ((p ++ ([32] ++ joinL [32] (q :: r))).foldl wstep (ws, [])) = _
    rw [List.foldl_append, wfold_word p ws [] h2, List.nil_append, List.foldl_append]
    have e : [32].foldl wstep (ws, p) = (ws ++ [p], []) := by
      have hs : Unicode.isSpace 32 = true := by decide +kernel
      have a : wstep (ws, p) 32 = (if p = [] then (ws, p) else (ws ++ [p], [])) := if_pos hs
      exact a.trans (if_neg h1)
    rw [e, wfold_join (q :: r) (ws ++ [p]) (by simp) fun z hz => h z (List.mem_cons_of_mem _ hz), List.append_assoc] <;> rfl
end TL
end 

namespace L2
open PySem PySem.Spec PyProof.Rows

theorem notLong {n : Nat} (h : n ≤ 16777216) : Builtin.Str.tooLong n = false := by
  have e : (2 : Nat) ^ 24 = 16777216 := by decide
  unfold Builtin.Str.tooLong sizeLine
  exact decide_eq_false (by omega)

/-- a list of texts, of numbered texts -/
theorem vals_strs : ∀ l : List (Str × Tok), Vals ((l.map (·.1)).map V.str) (strValues l)
  | [] => .nil
  | p :: r => .cons ⟨p.2, rfl⟩ (vals_strs r)
theorem strs_of_vals : ∀ {ys : List Str} {us : List Value}, Vals (ys.map V.str) us → StrsAre us ys
  | [], _, .nil => .nil
  | y :: ys, _, .cons r t => by
    obtain ⟨k, rfl⟩ := r
    exact .cons y k (strs_of_vals t)

/-- a new list of texts, tracked -/
def rNewStrs (ys : List Str) : Hp → VK → Prop := fun H Q => ∀ p, H p = none → Q (.ref p) (upd H p (.lst (ys.map V.str)))

section
variable {X : Cx} {pins : List (Addr × Obj)} {σ : St} {H : Hp} {s : Shared} {Q : VK}
theorem laid_strs {l : List (Str × Tok)} {ys : List Str} {k : Nat} (I : Inv X pins σ H s) (e : l.map (·.1) = ys) (hz : ys.length ≤ sizeLine) (h : rNewStrs ys H Q) :
    EP X pins σ Q (.ref s.heap.objs.size) { s with toks := k, heap := s.heap.push { cls := .type "list", data := .seq (strValues l).toArray } } := by
  have hp := I.hok.fresh (Nat.le_refl _)
  refine ⟨.ref s.heap.objs.size, upd H s.heap.objs.size (.lst (ys.map V.str)), I.laid (fun b u q => Heap.get?_push_of_some _ q) (Nat.le_refl _) ⟨by rw [List.length_map]; exact hz, strValues l, _, ?_, Heap.get?_push_size _ rfl⟩, rfl, h _ hp⟩
  rw [← e]
  exact vals_strs l
theorem laid_parts {x y z : Str} {t u v : Tok} {k : Nat} (I : Inv X pins σ H s) (h : ∀ p, H p = none → Q (.ref p) (upd H p (.tup [.str x, .str y, .str z]))) :
    EP X pins σ Q (.ref s.heap.objs.size) { s with toks := k, heap := s.heap.push { cls := .type "tuple", data := .seq [Value.str x t, .str y u, .str z v].toArray } } := by
  have hp := I.hok.fresh (Nat.le_refl _)
  exact ⟨.ref s.heap.objs.size, upd H s.heap.objs.size (.tup [.str x, .str y, .str z]), I.laid (fun b u q => Heap.get?_push_of_some _ q) (Nat.le_refl _)
    ⟨by show 3 ≤ sizeLine; decide, [Value.str x t, .str y u, .str z v], .cons ⟨t, rfl⟩ (.cons ⟨u, rfl⟩ (.cons ⟨v, rfl⟩ .nil)), _, Heap.get?_push_size _ rfl, rfl, _, rfl⟩, rfl, h _ hp⟩
end

section
variable {X : Cx}

/-- x.split(sep) -/
theorem mt_split : MtR X "str.split" (fun x xs H Q => ∃ a b, x = .str a ∧ xs = [.str b] ∧ (b.length == 0) = false ∧ a.length + 2 ≤ sizeLine ∧ rNewStrs (Txt.split a b) H Q) := by
  intro pins s σ H x xs v us Q I rx rs h
  obtain ⟨a, b, rfl, rfl, hb, hz, h⟩ := h
  obtain ⟨t, rfl⟩ := rx
  cases rs with
  | cons r1 rs =>
    cases rs
    obtain ⟨u, rfl⟩ := r1
    have hl : (Txt.split a b).length ≤ sizeLine := Nat.le_trans (PyProof.Rows.split_le a b) hz
    have hn : (Builtin.Str.partsBetween a (Builtin.Str.occurrences a b 0 a.length (a.length + 1)) b.length).length ≤ sizeLine := by
      have e1 := StrLaws.occ_length_le a b 0 a.length (a.length + 1)
      rw [length_partsBetween]; omega
    cases h1 : (decide (a.length < b.length) || decide (Builtin.Str.strKind a < Builtin.Str.strKind b))
    · cases hf : (Builtin.Str.occurrences a b 0 a.length (a.length + 1)).isEmpty
      · refine call_meets F.slot_str_split (typeIs_str _ _ _) F.entry_str_split (F.args_str_split_2 _ _) (meets_str_split_sep a b t u h1 hb hf (by omega) hn) ?_
        show EP X pins σ Q (.ref s.heap.objs.size) { s with toks := _, heap := s.heap.push { cls := .type "list", data := .seq (strsFrom s.toks (Builtin.Str.partsBetween a (Builtin.Str.occurrences a b 0 a.length (a.length + 1)) b.length)).toArray } }
        rw [strsFrom_eq]
        exact laid_strs (ys := Txt.split a b) I ((numbered_texts _ _).trans ((if_neg (ne_true_of_eq_false h1)).trans (if_neg (ne_true_of_eq_false hf))).symm) hl h
      · refine call_meets F.slot_str_split (typeIs_str _ _ _) F.entry_str_split (F.args_str_split_2 _ _) (meets_str_split_not_found a b t u h1 hb hf) ?_
        exact laid_strs (l := [(a, t)]) (ys := Txt.split a b) (k := s.toks) I ((if_neg (ne_true_of_eq_false h1)).trans (if_pos hf)).symm hl h
    · refine call_meets F.slot_str_split (typeIs_str _ _ _) F.entry_str_split (F.args_str_split_2 _ _) (meets_str_split_cannot_occur a b t u h1) ?_
      exact laid_strs (l := [(a, t)]) (ys := Txt.split a b) (k := s.toks) I (if_pos h1).symm hl h

theorem words_le (x : Str) : (Txt.words x).length ≤ x.length + 1 := by
  have e1 := StrLaws.words_weight x
  omega
/-- x.split() -/
theorem mt_words : MtR X "str.split" (fun x xs H Q => ∃ a, x = .str a ∧ xs = [] ∧ a.length + 2 ≤ sizeLine ∧ rNewStrs (Txt.words a) H Q) := by
  intro pins s σ H x xs v us Q I rx rs h
  obtain ⟨a, rfl, rfl, hz, h⟩ := h
  obtain ⟨t, rfl⟩ := rx
  cases rs
  have hl : (Txt.words a).length ≤ sizeLine := Nat.le_trans (words_le a) (by omega)
  have hn : (Builtin.Str.spaceWords a (a.length + 1)).length ≤ sizeLine := by
    have e1 := (StrLaws.sw_weight a).1
    have e2 := StrLaws.len_le_wsum (Builtin.Str.spaceWords a (a.length + 1))
    omega
  refine call_meets F.slot_str_split (typeIs_str _ _ _) F.entry_str_split (F.args_str_split_1 _) (meets_str_split_space a t (by omega) hn) ?_
  cases hw : Builtin.Str.spaceWords a (a.length + 1) == [(0, a.length)]
  · simp only [Bool.false_eq_true, if_false]
    rw [strsFrom_eq]
    exact laid_strs (ys := Txt.words a) I ((numbered_texts _ _).trans (if_neg (ne_true_of_eq_false hw)).symm) hl h
  · simp only [if_true]
    exact laid_strs (l := [(a, t)]) (ys := Txt.words a) (k := s.toks) I (if_pos hw).symm hl h

/-- x.partition(sep) -/
theorem mt_partition : MtR X "str.partition" (fun x xs H Q => ∃ a b, x = .str a ∧ xs = [.str b] ∧ (b.length == 0) = false ∧ a.length ≤ sizeLine ∧
    ∀ p, H p = none → Q (.ref p) (upd H p (.tup [.str (Txt.partition a b).1, .str (Txt.partition a b).2.1, .str (Txt.partition a b).2.2]))) := by
  intro pins s σ H x xs v us Q I rx rs h
  obtain ⟨a, b, rfl, rfl, hb, hz, h⟩ := h
  obtain ⟨t, rfl⟩ := rx
  cases rs with
  | cons r1 rs =>
    cases rs
    obtain ⟨u, rfl⟩ := r1
    refine call_meets F.slot_str_partition (typeIs_str _ _ _) F.entry_str_partition (F.args_str_partition_2 _ _) (meets_str_partition a b t u hb hz) ?_
    unfold Txt.partition at h
    revert h
    cases Builtin.Str.occurrences a b 0 a.length 1 with
    | nil => intro h; exact laid_parts I h
    | cons i r => intro h; exact laid_parts I h

/-- sep.join(a list | a tuple of texts) -/
theorem mt_join : MtR X "str.join" (fun x xs H Q => ∃ a p, ∃ ys : List Str, x = .str a ∧ xs = [.ref p] ∧ (SqL X.K H p (ys.map V.str) ∨ SqT X.K H p (ys.map V.str)) ∧
    (ys.map (·.length)).sum + ys.length * a.length ≤ 16777216 ∧ Q (.str (Txt.join a ys)) H) := by
  intro pins s σ H x xs v us Q I rx rs h
  obtain ⟨a, p, ys, rfl, rfl, hp, hz, h⟩ := h
  obtain ⟨t, rfl⟩ := rx
  cases rs with
  | cons r1 rs =>
    cases rs
    cases r1
    rcases hp with hp | hp
    · obtain ⟨its, r, ⟨o, n, ho, hc, _, hd⟩, _⟩ := I.list hp
      exact PyProof.Rows.join_list (items := its.toArray) ⟨o, ho, hc, n, hd⟩ (by rw [List.toList_toArray]; exact strs_of_vals r) hz fun t' k => ⟨.str _, H, I.tok k, ⟨t', rfl⟩, h⟩
    · obtain ⟨its, r, ht, _⟩ := I.tuple hp
      exact PyProof.Rows.join_tuple (items := its.toArray) ht (by rw [List.toList_toArray]; exact strs_of_vals r) hz fun t' k => ⟨.str _, H, I.tok k, ⟨t', rfl⟩, h⟩

/-! ### of a text alone -/
theorem mt0 {id : String} {C : Str → Prop} {g : Str → V} (rule : ∀ (a : Str) (t : Tok) (s : Shared) (Q : Value → Shared → Prop), C a → (∀ (u : Value) (k : Nat), RelV (g a) u → Q u { s with toks := k }) →
    wpAny (model X.prog X.w) X.A (call (.builtin id) [.str a t]) Q X.xe s) : MtR X id (fun x xs H Q => ∃ a, x = .str a ∧ xs = [] ∧ C a ∧ Q (g a) H) := by
  intro pins s σ H x xs v us Q I rx rs h
  obtain ⟨a, rfl, rfl, hc, h⟩ := h
  obtain ⟨t, rfl⟩ := rx
  cases rs
  exact rule a t s _ hc fun u k r => ⟨g a, H, I.tok k, r, h⟩
theorem mt_strip : MtR X "str.strip" (fun x xs H Q => ∃ a, x = .str a ∧ xs = [] ∧ a.length ≤ sizeLine ∧ Q (.str (Txt.strip a)) H) :=
  mt0 (C := fun a => a.length ≤ sizeLine) (g := fun a => .str (Txt.strip a)) fun _ _ _ _ hc h => PySem.SC.strip (fun t' k => h _ k ⟨t', rfl⟩) hc
theorem mt_lstrip : MtR X "str.lstrip" (fun x xs H Q => ∃ a, x = .str a ∧ xs = [] ∧ a.length ≤ sizeLine ∧ Q (.str (Txt.lstrip a)) H) :=
  mt0 (C := fun a => a.length ≤ sizeLine) (g := fun a => .str (Txt.lstrip a)) fun _ _ _ _ hc h => PySem.SC.lstrip (fun t' k => h _ k ⟨t', rfl⟩) hc
theorem mt_rstrip : MtR X "str.rstrip" (fun x xs H Q => ∃ a, x = .str a ∧ xs = [] ∧ a.length ≤ sizeLine ∧ Q (.str (Txt.rstrip a)) H) :=
  mt0 (C := fun a => a.length ≤ sizeLine) (g := fun a => .str (Txt.rstrip a)) fun _ _ _ _ hc h => PySem.SC.rstrip (fun t' k => h _ k ⟨t', rfl⟩) hc
theorem mt_lower : MtR X "str.lower" (fun x xs H Q => ∃ a, x = .str a ∧ xs = [] ∧ a.length ≤ 5592405 ∧ Q (.str (Txt.lower a)) H) :=
  mt0 (C := fun a => a.length ≤ 5592405) (g := fun a => .str (Txt.lower a)) fun a _ s _ hc h =>
    PySem.SC.lower (notLong (by have h1 : a.length ≤ 5592405 := hc; have := PyProof.Rows.len_lower a; omega)) (h _ (s.toks + 1) ⟨_, rfl⟩)
theorem mt_upper : MtR X "str.upper" (fun x xs H Q => ∃ a, x = .str a ∧ xs = [] ∧ a.length ≤ 5592405 ∧ Q (.str (Txt.upper a)) H) :=
  mt0 (C := fun a => a.length ≤ 5592405) (g := fun a => .str (Txt.upper a)) fun a _ s _ hc h =>
    PySem.SC.upper (notLong (by have h1 : a.length ≤ 5592405 := hc; have := PyProof.Rows.len_upper a; omega)) (h _ (s.toks + 1) ⟨_, rfl⟩)
theorem mt_isdigit : MtR X "str.isdigit" (fun x xs H Q => ∃ a, x = .str a ∧ xs = [] ∧ True ∧ Q (.bl (Txt.isdigit a)) H) :=
  mt0 (C := fun _ => True) (g := fun a => .bl (Txt.isdigit a)) fun _ _ s _ _ h => PySem.SC.isdigit (h _ s.toks rfl)
theorem mt_isalpha : MtR X "str.isalpha" (fun x xs H Q => ∃ a, x = .str a ∧ xs = [] ∧ True ∧ Q (.bl (Txt.isalpha a)) H) :=
  mt0 (C := fun _ => True) (g := fun a => .bl (Txt.isalpha a)) fun _ _ s _ _ h => PySem.SC.isalpha (h _ s.toks rfl)
theorem mt_isalnum : MtR X "str.isalnum" (fun x xs H Q => ∃ a, x = .str a ∧ xs = [] ∧ True ∧ Q (.bl (Txt.isalnum a)) H) :=
  mt0 (C := fun _ => True) (g := fun a => .bl (Txt.isalnum a)) fun _ _ s _ _ h => PySem.SC.isalnum (h _ s.toks rfl)
theorem mt_isspace : MtR X "str.isspace" (fun x xs H Q => ∃ a, x = .str a ∧ xs = [] ∧ True ∧ Q (.bl (Txt.isspace a)) H) :=
  mt0 (C := fun _ => True) (g := fun a => .bl (Txt.isspace a)) fun _ _ s _ _ h => PySem.SC.isspace (h _ s.toks rfl)

/-! ### of a text and a text -/
theorem mt1 {id : String} {g : Str → Str → V} (rule : ∀ (a b : Str) (t u : Tok) (s : Shared) (Q : Value → Shared → Prop), (∀ (v : Value) (k : Nat), RelV (g a b) v → Q v { s with toks := k }) →
    wpAny (model X.prog X.w) X.A (call (.builtin id) [.str a t, .str b u]) Q X.xe s) : MtR X id (fun x xs H Q => ∃ a b, x = .str a ∧ xs = [.str b] ∧ Q (g a b) H) := by
  intro pins s σ H x xs v us Q I rx rs h
  obtain ⟨a, b, rfl, rfl, h⟩ := h
  obtain ⟨t, rfl⟩ := rx
  cases rs with
  | cons r1 rs =>
    cases rs
    obtain ⟨u, rfl⟩ := r1
    exact rule a b t u s _ fun v k r => ⟨g a b, H, I.tok k, r, h⟩
theorem mt_startswith : MtR X "str.startswith" (fun x xs H Q => ∃ a b, x = .str a ∧ xs = [.str b] ∧ Q (.bl (Txt.startswith a b)) H) :=
  mt1 (g := fun a b => .bl (Txt.startswith a b)) fun _ _ _ _ s _ h => PySem.SC.startswith (h _ s.toks rfl)
theorem mt_endswith : MtR X "str.endswith" (fun x xs H Q => ∃ a b, x = .str a ∧ xs = [.str b] ∧ Q (.bl (Txt.endswith a b)) H) :=
  mt1 (g := fun a b => .bl (Txt.endswith a b)) fun _ _ _ _ s _ h => PySem.SC.endswith (h _ s.toks rfl)
theorem mt_find : MtR X "str.find" (fun x xs H Q => ∃ a b, x = .str a ∧ xs = [.str b] ∧ Q (.int (Txt.find a b)) H) :=
  mt1 (g := fun a b => .int (Txt.find a b)) fun _ _ _ _ s _ h => PySem.SC.find (h _ (s.toks + 1) ⟨_, rfl⟩)
theorem mt_count : MtR X "str.count" (fun x xs H Q => ∃ a b, x = .str a ∧ xs = [.str b] ∧ Q (.int (Txt.count a b)) H) :=
  mt1 (g := fun a b => .int (Txt.count a b)) fun _ _ _ _ s _ h => PySem.SC.count (h _ (s.toks + 1) ⟨_, rfl⟩)

/-- int(text) -/
theorem call_int_str : CallR X (.type "int") (fun xs H Q => ∃ a n, xs = [.str a] ∧ PySem.intText? a = some n ∧ a.length ≤ 640 ∧ Q (.int n) H) := by
  intro pins s σ H xs us Q I rs h
  obtain ⟨a, n, rfl, hn, hl, h⟩ := h
  cases rs with
  | cons r1 rs =>
    cases rs
    obtain ⟨t, rfl⟩ := r1
    exact PySem.W.KIN.call_text hn hl ⟨.int n, H, I.tok _, ⟨_, rfl⟩, h⟩
end

section
variable {X : Cx} {o e : Expr} {to te : TE}
def tM0 (r : V → List V → Hp → VK → Prop) (to : TE) : TE := fun σ H Q => to σ H fun x H1 => (∃ a, x = .str a) ∧ r x [] H1 Q
def tM1 (r : V → List V → Hp → VK → Prop) (to te : TE) : TE := fun σ H Q => to σ H fun x H1 => (∃ a, x = .str a) ∧ te σ H1 fun y H2 => r x [y] H2 Q
theorem pe_m0 {id : String} {name : Str} {apos pos : Pos} {r : V → List V → Hp → VK → Prop} (slot : Slot "str" name id) (ty : typeOf (.builtin id) = pure (.type "method_descriptor")) (rule : MtR X id r) (ho : PE X o to)
    (hbase : attributeBase o name X.env (eval o X.env) = eval o X.env := by rfl) (hline : (apos.endLine == pos.line) = true := by rfl) : PE X (.Call (.Attribute o name apos) [] [] pos) (tM0 r to) := by
  intro pins s σ H Q I h
  refine PySem.Call_method0 hbase hline (thn (ho pins s σ H _ I h) fun v s1 ⟨x, H1, I1, r1, q1⟩ => ?_)
  obtain ⟨⟨a, rfl⟩, q1⟩ := q1
  obtain ⟨t, rfl⟩ := _root_.id r1
  exact ⟨"str", _, F.plainAttrs_str, slot, ty, typeIs_str _ _ _, (fun _ e => nomatch e), Calls.callWith_builtin rfl (PySem.evalArgs_none (rule pins s1 σ H1 _ [] _ [] Q I1 r1 .nil q1))⟩
theorem pe_m1 {id : String} {name : Str} {apos pos : Pos} {r : V → List V → Hp → VK → Prop} (slot : Slot "str" name id) (ty : typeOf (.builtin id) = pure (.type "method_descriptor")) (rule : MtR X id r) (ho : PE X o to) (he : PE X e te)
    (hs : starEach [e] X.env = [(false, eval e X.env)] := by rfl) (hbase : attributeBase o name X.env (eval o X.env) = eval o X.env := by rfl) (hline : (apos.endLine == pos.line) = true := by rfl) :
    PE X (.Call (.Attribute o name apos) [e] [] pos) (tM1 r to te) := by
  intro pins s σ H Q I h
  refine PySem.Call_method1 hbase hs hline (thn (ho pins s σ H _ I h) fun v s1 ⟨x, H1, I1, r1, q1⟩ => ?_)
  obtain ⟨⟨a, rfl⟩, q1⟩ := q1
  obtain ⟨t, rfl⟩ := _root_.id r1
  refine ⟨"str", _, F.plainAttrs_str, slot, ty, typeIs_str _ _ _, (fun _ e => nomatch e), Calls.callWith_builtin rfl (Calls.evalArgs_plain (Calls.spliced_cons ?_))⟩
  exact thn (he pins s1 σ H1 _ I1 q1) fun u s2 ⟨y, H2, I2, r2, q2⟩ => Calls.spliced_nil (rule pins s2 σ H2 _ [y] _ [u] Q I2 r1 (.cons r2 .nil) q2)

theorem pe_split {apos pos : Pos} (ho : PE X o to) (he : PE X e te) (hs : starEach [e] X.env = [(false, eval e X.env)] := by rfl) (hbase : attributeBase o "split" X.env (eval o X.env) = eval o X.env := by rfl) (hline : (apos.endLine == pos.line) = true := by rfl) :
    PE X (.Call (.Attribute o "split" apos) [e] [] pos) (tM1 (fun x xs H Q => ∃ a b, x = .str a ∧ xs = [.str b] ∧ (b.length == 0) = false ∧ a.length + 2 ≤ sizeLine ∧ rNewStrs (Txt.split a b) H Q) to te) :=
  pe_m1 F.slot_str_split F.type_str_split mt_split ho he hs hbase hline
theorem pe_words {apos pos : Pos} (ho : PE X o to) (hbase : attributeBase o "split" X.env (eval o X.env) = eval o X.env := by rfl) (hline : (apos.endLine == pos.line) = true := by rfl) :
    PE X (.Call (.Attribute o "split" apos) [] [] pos) (tM0 (fun x xs H Q => ∃ a, x = .str a ∧ xs = [] ∧ a.length + 2 ≤ sizeLine ∧ rNewStrs (Txt.words a) H Q) to) :=
  pe_m0 F.slot_str_split F.type_str_split mt_words ho hbase hline
theorem pe_partition {apos pos : Pos} (ho : PE X o to) (he : PE X e te) (hs : starEach [e] X.env = [(false, eval e X.env)] := by rfl) (hbase : attributeBase o "partition" X.env (eval o X.env) = eval o X.env := by rfl) (hline : (apos.endLine == pos.line) = true := by rfl) :
    PE X (.Call (.Attribute o "partition" apos) [e] [] pos) (tM1 (fun x xs H Q => ∃ a b, x = .str a ∧ xs = [.str b] ∧ (b.length == 0) = false ∧ a.length ≤ sizeLine ∧
      ∀ p, H p = none → Q (.ref p) (upd H p (.tup [.str (Txt.partition a b).1, .str (Txt.partition a b).2.1, .str (Txt.partition a b).2.2]))) to te) :=
  pe_m1 F.slot_str_partition F.type_str_partition mt_partition ho he hs hbase hline
theorem pe_join {apos pos : Pos} (ho : PE X o to) (he : PE X e te) (hs : starEach [e] X.env = [(false, eval e X.env)] := by rfl) (hbase : attributeBase o "join" X.env (eval o X.env) = eval o X.env := by rfl) (hline : (apos.endLine == pos.line) = true := by rfl) :
    PE X (.Call (.Attribute o "join" apos) [e] [] pos) (tM1 (fun x xs H Q => ∃ a p, ∃ ys : List Str, x = .str a ∧ xs = [.ref p] ∧ (SqL X.K H p (ys.map V.str) ∨ SqT X.K H p (ys.map V.str)) ∧
      (ys.map (·.length)).sum + ys.length * a.length ≤ 16777216 ∧ Q (.str (Txt.join a ys)) H) to te) :=
  pe_m1 F.slot_str_join F.type_str_join mt_join ho he hs hbase hline
theorem pe_strip {apos pos : Pos} (ho : PE X o to) (hbase : attributeBase o "strip" X.env (eval o X.env) = eval o X.env := by rfl) (hline : (apos.endLine == pos.line) = true := by rfl) :
    PE X (.Call (.Attribute o "strip" apos) [] [] pos) (tM0 (fun x xs H Q => ∃ a, x = .str a ∧ xs = [] ∧ a.length ≤ sizeLine ∧ Q (.str (Txt.strip a)) H) to) :=
  pe_m0 F.slot_str_strip F.type_str_strip mt_strip ho hbase hline
theorem pe_lower {apos pos : Pos} (ho : PE X o to) (hbase : attributeBase o "lower" X.env (eval o X.env) = eval o X.env := by rfl) (hline : (apos.endLine == pos.line) = true := by rfl) :
    PE X (.Call (.Attribute o "lower" apos) [] [] pos) (tM0 (fun x xs H Q => ∃ a, x = .str a ∧ xs = [] ∧ a.length ≤ 5592405 ∧ Q (.str (Txt.lower a)) H) to) :=
  pe_m0 F.slot_str_lower F.type_str_lower mt_lower ho hbase hline
theorem pe_upper {apos pos : Pos} (ho : PE X o to) (hbase : attributeBase o "upper" X.env (eval o X.env) = eval o X.env := by rfl) (hline : (apos.endLine == pos.line) = true := by rfl) :
    PE X (.Call (.Attribute o "upper" apos) [] [] pos) (tM0 (fun x xs H Q => ∃ a, x = .str a ∧ xs = [] ∧ a.length ≤ 5592405 ∧ Q (.str (Txt.upper a)) H) to) :=
  pe_m0 F.slot_str_upper F.type_str_upper mt_upper ho hbase hline
end
end L2

namespace L2
open PySem PySem.Spec PyProof.Rows

section
variable {X : Cx}
theorem op_le_str : OpR X (compareOp .LtE) (fun x y H Q => ∃ i j, x = .str i ∧ y = .str j ∧ Q (.bl (!decide (j.cps.toList < i.cps.toList))) H) := by
  intro pins s σ H x y v u Q I rx ry h
  obtain ⟨i, j, rfl, rfl, q⟩ := h
  obtain ⟨t, rfl⟩ := rx
  obtain ⟨t', rfl⟩ := ry
  exact PySem.P.le_str (fin_bl I q rfl)
theorem op_gt_str : OpR X (compareOp .Gt) (fun x y H Q => ∃ i j, x = .str i ∧ y = .str j ∧ Q (.bl (decide (j.cps.toList < i.cps.toList))) H) := by
  intro pins s σ H x y v u Q I rx ry h
  obtain ⟨i, j, rfl, rfl, q⟩ := h
  obtain ⟨t, rfl⟩ := rx
  obtain ⟨t', rfl⟩ := ry
  exact PySem.P.gt_str (fin_bl I q rfl)
theorem op_ge_str : OpR X (compareOp .GtE) (fun x y H Q => ∃ i j, x = .str i ∧ y = .str j ∧ Q (.bl (!decide (i.cps.toList < j.cps.toList))) H) := by
  intro pins s σ H x y v u Q I rx ry h
  obtain ⟨i, j, rfl, rfl, q⟩ := h
  obtain ⟨t, rfl⟩ := rx
  obtain ⟨t', rfl⟩ := ry
  exact PySem.P.ge_str (fin_bl I q rfl)
/-- one sign in a text -/
theorem op_in_sign : OpR X (compareOp .In) (fun x y H Q => ∃ (c : Nat) (z : Str), x = .str ⟨#[c]⟩ ∧ y = .str z ∧ Q (.bl (decide (c ∈ z.cps.toList))) H) := by
  intro pins s σ H x y v u Q I rx ry h
  obtain ⟨c, z, rfl, rfl, q⟩ := h
  obtain ⟨t, rfl⟩ := rx
  obtain ⟨t', rfl⟩ := ry
  exact PyProof.Rows.in_str (fin_bl I q (PySem.StrLaws.found_one z c).symm)
theorem op_notIn_sign : OpR X (compareOp .NotIn) (fun x y H Q => ∃ (c : Nat) (z : Str), x = .str ⟨#[c]⟩ ∧ y = .str z ∧ Q (.bl (!decide (c ∈ z.cps.toList))) H) := by
  intro pins s σ H x y v u Q I rx ry h
  obtain ⟨c, z, rfl, rfl, q⟩ := h
  obtain ⟨t, rfl⟩ := rx
  obtain ⟨t', rfl⟩ := ry
  exact PyProof.Rows.notIn_str (fin_bl I q (congrArg Bool.not (PySem.StrLaws.found_one z c).symm))
end

/-! ### slices of a text -/
theorem IsPart.raw {v : Value} {o : Option Int} (p : IsPart v o) : ∃ l : Option (Int × Tok), v = partValue l ∧ l.map (·.1) = o := by
  cases p with
  | none => exact ⟨none, rfl, rfl⟩
  | int i t => exact ⟨some (i, t), rfl, rfl⟩

/-- a part, clipped, as the text's slice reckons it -/
def clipS (n d : Nat) : Option Int → Int
  | none => (d : Int)
  | some i => max 0 (min (if i < 0 then i + (n : Int) else i) (n : Int))
theorem clipS_eq (n d : Nat) (o : Option Int) : clipS n d o = ((HT.sIx n d o : Nat) : Int) := by
  cases o with
  | none => rfl
  | some v =>
    show max (0 : Int) (min (if v < 0 then v + (n : Int) else v) (n : Int)) = (((if v < 0 then (v + (n : Int)).toNat else min v.toNat n) : Nat) : Int)
    by_cases hv : v < 0
    · simp only [if_pos hv]
      omega
    · simp only [if_neg hv]
      omega
theorem sidx_clip (a b : Option Int) (n : Nat) : Builtin.Str.strSliceIndices a b 1 n = sliceRange (clipS n 0 a) (clipS n n b) 1 := by
  have h1 : ((1 : Int) > 0) = True := by simp
  cases a <;> cases b <;> first
    | rfl
    | (simp only [Builtin.Str.strSliceIndices, clipS, h1, if_true]; rfl)
    | simp [Builtin.Str.strSliceIndices, clipS]
theorem sidx (a b : Option Int) (n : Nat) : Builtin.Str.strSliceIndices a b 1 n = (List.range (HT.sIx n n b - HT.sIx n 0 a)).map (fun k => HT.sIx n 0 a + k) := by
  rw [sidx_clip, clipS_eq, clipS_eq]
  generalize HT.sIx n 0 a = p
  generalize HT.sIx n n b = q
  simp only [sliceRange, show ((1 : Int) > 0) = True from by simp, if_true]
  by_cases hlt : (p : Int) < q
  · have e3 : (((q : Int) - p + 1 - 1) / 1).toNat = q - p := by first | omega | (simp; done) | (simp; omega)
    simp only [hlt, if_true, e3]
    refine List.map_congr_left fun k _ => ?_
    omega
  · have : q - p = 0 := by omega
    simp [hlt, this]

/-- z[lo:hi] -/
def cutS (z : Str) (lo hi : Option Int) : Str :=
  ⟨((z.cps.toList.drop (HT.sIx z.length 0 lo)).take (HT.sIx z.length z.length hi - HT.sIx z.length 0 lo)).toArray⟩
theorem sliceText_cut (z : Str) (lo hi : Option Int) : PySem.StrLaws.sliceText z lo hi = cutS z lo hi := by
  have h1 : HT.sIx z.length 0 lo ≤ z.length := HT.sIx_le _ _ (Nat.zero_le _) _
  have h2 : HT.sIx z.length z.length hi ≤ z.length := HT.sIx_le _ _ (Nat.le_refl _) _
  have hp : HT.sIx z.length 0 lo ≤ max (HT.sIx z.length 0 lo) (HT.sIx z.length z.length hi) := Nat.le_max_left _ _
  have hq : max (HT.sIx z.length 0 lo) (HT.sIx z.length z.length hi) ≤ z.length := Nat.max_le.mpr ⟨h1, h2⟩
  have hd : max (HT.sIx z.length 0 lo) (HT.sIx z.length z.length hi) - HT.sIx z.length 0 lo = HT.sIx z.length z.length hi - HT.sIx z.length 0 lo := by omega
  have e : Builtin.Str.strSliceIndices lo hi 1 z.length =
      Builtin.Str.strSliceIndices (some ((HT.sIx z.length 0 lo : Nat) : Int)) (some ((max (HT.sIx z.length 0 lo) (HT.sIx z.length z.length hi) : Nat) : Int)) 1 z.length := by
    rw [PySem.StrLaws.strSliceIndices_plain hp hq, hd, sidx]
  have e2 : PySem.StrLaws.sliceText z lo hi =
      PySem.StrLaws.sliceText z (some ((HT.sIx z.length 0 lo : Nat) : Int)) (some ((max (HT.sIx z.length 0 lo) (HT.sIx z.length z.length hi) : Nat) : Int)) := by
    unfold PySem.StrLaws.sliceText
    rw [e]
  rw [e2, PySem.StrLaws.sliceText_nat z hp hq, hd]
  rfl
theorem cutS_length (z : Str) (lo hi : Option Int) : (cutS z lo hi).length ≤ z.length := by
  show (((z.cps.toList.drop (HT.sIx z.length 0 lo)).take (HT.sIx z.length z.length hi - HT.sIx z.length 0 lo)).toArray).size ≤ z.cps.size
  rw [List.size_toArray, List.length_take, List.length_drop, Array.length_toList]
  omega
def rSlS : V → Option Int → Option Int → Hp → VK → Prop := fun x lo hi H Q => ∃ z, x = .str z ∧ z.length ≤ sizeLine ∧ Q (.str (cutS z lo hi)) H
theorem sl_str {X : Cx} : SlR X rSlS := by
  intro pins s σ H x v vl vu lo hi sl Q I rx hs pl pu h
  obtain ⟨z, rfl, hz, q⟩ := h
  obtain ⟨t, rfl⟩ := rx
  obtain ⟨os, hos, hcs, hds⟩ := hs
  obtain ⟨l, rfl, rfl⟩ := IsPart.raw pl
  obtain ⟨u, rfl, rfl⟩ := IsPart.raw pu
  refine ⟨"str", _, F.slot_str_getitem.lookup, typeIs_str _ _ _, ?_⟩
  refine wpAny_getItem_str_slice (l := l) (u := u) (st := none) ⟨os, hos, hcs, hds⟩ rfl ?_
  have hl : (PySem.StrLaws.sliceText z (l.map (·.1)) (u.map (·.1))).length ≤ sizeLine := by
    rw [sliceText_cut]
    exact Nat.le_trans (cutS_length z _ _) hz
  rw [← sliceText_cut] at q
  unfold PySem.StrLaws.sliceText at q hl
  show Made.post (if ((1 : Int) == 1 && (Builtin.Str.strSliceIndices (l.map (·.1)) (u.map (·.1)) 1 z.length).length == z.length) = true then Made.val (.str z t)
    else Made.str ⟨((Builtin.Str.strSliceIndices (l.map (·.1)) (u.map (·.1)) 1 z.length).filterMap (z.cps[·]?)).toArray⟩) (EP X pins σ Q) s
  by_cases c : ((1 : Int) == 1 && (Builtin.Str.strSliceIndices (l.map (·.1)) (u.map (·.1)) 1 z.length).length == z.length) = true
  · rw [if_pos c] at q ⊢
    exact ⟨.str z, H, I, ⟨t, rfl⟩, q⟩
  · rw [if_neg c] at q hl ⊢
    exact ⟨hl, .str _, H, I.tok _, ⟨_, rfl⟩, q⟩
end L2

namespace Att
open PySem PySem.W PySem.Calls PyProof.Rows

/-! ### the script -/
theorem ints_of_wellAll {P : Params} {h : Heap} : ∀ (ns : List Int) (vs : List Value), WellAll P h vs (ns.map WData.int) → IntsAre vs ns := by
  intro ns
  induction ns with
  | nil =>
    intro vs w
    rw [List.map_nil] at w
    cases w
    exact .nil
  | cons n ns ih =>
    intro vs w
    rw [List.map_cons] at w
    cases w with
    | cons a b =>
      cases a
      exact .cons _ _ (ih _ b)

theorem script_of {l : OpenLaw} {n : Nat} (hn : l.most = some n) {P : Params} {h : Heap} {args : List WData} {vals : List Value}
    (hpre : l.row.toRowW.claim.pre args = true) (hwl : WellAll P h vals args) :
    ∃ a vs ns, vals = [Value.ref a] ∧ args = [WData.list (ns.map WData.int)] ∧ h.get? a = some { cls := .type "list", data := .seq vs.toArray } ∧ IntsAre vs ns ∧ ns.length ≤ n := by
  have hsh : WShape.hasAll [] args [.list .int] = true := (pre_splitW hpre).1
  have hc : l.pre.holds [] { args := args } = true := (pre_splitW hpre).2
  obtain ⟨d, r, rfl, h1, h2⟩ := hasAllW_cons hsh
  obtain rfl := hasAllW_nil h2
  obtain ⟨xs, rfl, h3⟩ := hasW_list h1
  obtain ⟨ns, rfl⟩ := items_int h3
  have hlen : ns.length ≤ n := by
    unfold OpenLaw.pre at hc
    have h4 : (WTm.not (.lt (.lit (.int (n : Int))) (.len (.arg 0)))).holds [] { args := [.list (ns.map .int)] } = true := by
      have h4 := (holds_andW hc).1
      rw [hn] at h4
      exact h4
    have h5 := condW_of h4 (w_not (w_lt w_lit (w_len_list (w_arg rfl))))
    rw [List.length_map] at h5
    refine Nat.le_of_not_lt fun q => ?_
    have q' : (n : Int) < ((ns.length : Nat) : Int) := by omega
    first
      | (rw [decide_eq_true q'] at h5; exact absurd h5 (by decide))
      | (simp at h5; omega)
  cases hwl with
  | cons w1 w2 =>
    cases w2
    cases w1 with
    | list ho hall => exact ⟨_, _, ns, rfl, rfl, ho, ints_of_wellAll ns _ hall, hlen⟩

theorem post_true (l : OpenLaw) (args : List WData) : l.row.toRowW.claim.post args (.bool true) args = true :=
  postW_of (r := l.row.toRowW) (X := (true == true))
    (show WShape.has [] (.bool true) .bool = true by first | rfl | decide | simp [WShape.has, WShape.arms, WShape.armsAll])
    (show (WTm.eq .res (.lit (.bool true))).value [] { args := args, res := some (.bool true), after := args } = some (.bool (true == true)) from w_eq_bool (w_res rfl) w_lit) rfl

/-! ### the attachment: holds_open's last premise (the goal 'hc' behind k_head) from a wpAny of the law's body -/
theorem attach {l : OpenLaw} {n : Nat} {q : Program} {loose : List Str} {XP : (Str → Option Value) → Heap → Prop} {YP : World → Heap → Prop} {d : DefRec} {x : Str}
    (hn : l.most = some n) (hdf : d.params.defaults = [])
    (hbind : ∀ pm cd doc v : Value, bindArgs (docDef d.name d.params d.body d.scope pm cd doc) ⟨[v], []⟩ = pure [(x, v)])
    (hx : d.scope.names.lookup x = some .local ∨ d.scope.names.lookup x = some .cell)
    (hk : d.scope.kind = .function) (hco : d.scope.isCoroutine = false) (hgen : d.scope.isGenerator = false)
    (body : ∀ (w : World) (s₀ s₁ s : Shared) (mg mb : Str → Option Value) (fa : Addr) (o : Obj) (pm cd doc : Value) (a : Addr) (vs : List Value) (ns : List Int),
      Ground q loose [] XP w s₀ mg mb s₁.heap → YP w s₁.heap →
      s₁.heap.get? fa = some o → o.data = .func (docDef d.name d.params d.body d.scope pm cd doc) → s₁.heap.CodeRec cd d.name → mg d.name = some (.ref fa) →
      s₁.heap.get? a = some { cls := .type "list", data := .seq vs.toArray } → IntsAre vs ns → ns.length ≤ n →
      s.gens = #[] → s.os = s₁.os →
      Fr s₁.heap s₁.heap.objs.size s.heap (bindL (envOfC d.name d.scope s₁.heap.objs.size fa cd).kindOf [(x, .ref a)] fun _ => none) →
      Cl s₁.heap.objs.size (cellsFrom (s₁.heap.objs.size + 1) d.scope.names []) s.heap (bindC (envOfC d.name d.scope s₁.heap.objs.size fa cd).kindOf [(x, .ref a)] fun _ => none) →
      wpAny (model l.prog w) (callerA.deeper (envOfC d.name d.scope s₁.heap.objs.size fa cd)) (execs d.body (envOfC d.name d.scope s₁.heap.objs.size fa cd))
        (fun f s' => f = .ret (.bool true) ∧ OldK s₁.heap s'.heap ∧ s'.os = s₁.os ∧ AllBare s'.gens) (fun _ _ => False) s) :
    WalkO q loose XP YP l.row.toRowW d [] (fun f vs => PySem.call f vs) := by
  intro w s₀ s₁ mg mb G Y fa o pm cd doc dV kV ho hd hcd hD hmg hg args vals as hpre hlay hrd hwl hlo
  obtain rfl : dV = .none := Dflts.none hD hdf
  obtain rfl : kV = .none := Dflts.noKw hD
  obtain ⟨a, vs, ns, rfl, rfl, hobj, hints, hlen⟩ := script_of hn hpre hwl
  refine enter_call ?_
  refine call_cells_ret (o := o) (by rw [depth_caller]; decide) ho (fd_plain hd) G.T.nolimit hcd (hbind pm cd doc (.ref a)) (fun y hy => ?_) (fun h₁ tk F X => ?_) hco hgen hk
  · obtain rfl : y = (x, Value.ref a) := List.mem_singleton.mp hy
    rcases hx with e | e
    · exact .inl e
    · exact .inr ⟨e, cellsFrom_some _ _ _ (.inl e)⟩
  · refine wpAny_mono (body w s₀ s₁ { s₁ with heap := h₁, toks := tk } mg mb fa o pm cd doc a vs ns G Y ho (fd_plain hd) hcd hmg hobj hints hlen hg rfl F X) (fun f s' hq => ?_) (fun _ _ hq => hq)
    obtain ⟨rfl, h2, h3, h4⟩ := hq
    exact ⟨.inl ⟨.bool true, .bool true, [], rfl, fun _ => rfl, .bool true, post_true l _, fun _ => ⟨List.Pairwise.nil, fun _ hm => (nomatch hm)⟩⟩, h2, h3, h4⟩

/-- the same from a codeAny of the CALL (for a layer whose function contracts speak of calls) -/
theorem attach_call {l : OpenLaw} {n : Nat} {q : Program} {loose : List Str} {XP : (Str → Option Value) → Heap → Prop} {YP : World → Heap → Prop} {d : DefRec}
    (hn : l.most = some n) (hdf : d.params.defaults = [])
    (call : ∀ (w : World) (s₀ s₁ : Shared) (mg mb : Str → Option Value) (fa : Addr) (o : Obj) (pm cd doc : Value) (a : Addr) (vs : List Value) (ns : List Int),
      Ground q loose [] XP w s₀ mg mb s₁.heap → YP w s₁.heap →
      s₁.heap.get? fa = some o → o.data = .func (docDef d.name d.params d.body d.scope pm cd doc) → s₁.heap.CodeRec cd d.name → mg d.name = some (.ref fa) →
      s₁.heap.get? a = some { cls := .type "list", data := .seq vs.toArray } → IntsAre vs ns → ns.length ≤ n → s₁.gens = #[] →
      codeAny (model l.prog w) callerA (.call (.ref fa) ⟨[.ref a], []⟩) (fun r s' => r = .ok (.ret (.bool true)) ∧ OldK s₁.heap s'.heap ∧ s'.os = s₁.os ∧ AllBare s'.gens) s₁) :
    WalkO q loose XP YP l.row.toRowW d [] (fun f vs => PySem.call f vs) := by
  intro w s₀ s₁ mg mb G Y fa o pm cd doc dV kV ho hd hcd hD hmg hg args vals as hpre hlay hrd hwl hlo
  obtain rfl : dV = .none := Dflts.none hD hdf
  obtain rfl : kV = .none := Dflts.noKw hD
  obtain ⟨a, vs, ns, rfl, rfl, hobj, hints, hlen⟩ := script_of hn hpre hwl
  refine enter_call (codeAny_mono (call w s₀ s₁ mg mb fa o pm cd doc a vs ns G Y ho (fd_plain hd) hcd hmg hobj hints hlen hg) fun r s' hq => ?_)
  obtain ⟨rfl, h2, h3, h4⟩ := hq
  exact ⟨.inl ⟨.bool true, .bool true, [], rfl, fun _ => rfl, .bool true, post_true l _, fun _ => ⟨List.Pairwise.nil, fun _ hm => (nomatch hm)⟩⟩, h2, h3, h4⟩

/-- the same where the top left finished generators (o_head chose holds_openN): nothing may have changed at all and no generator may be left -/
theorem attachN {l : OpenLaw} {n : Nat} {q : Program} {loose : List Str} {XP : (Str → Option Value) → Heap → Prop} {YP : World → Heap → Prop} {d : DefRec} {x : Str}
    (hn : l.most = some n) (hdf : d.params.defaults = [])
    (hbind : ∀ pm cd doc v : Value, bindArgs (docDef d.name d.params d.body d.scope pm cd doc) ⟨[v], []⟩ = pure [(x, v)])
    (hx : d.scope.names.lookup x = some .local ∨ d.scope.names.lookup x = some .cell)
    (hk : d.scope.kind = .function) (hco : d.scope.isCoroutine = false) (hgen : d.scope.isGenerator = false)
    (body : ∀ (w : World) (s₀ s₁ s : Shared) (mg mb : Str → Option Value) (fa : Addr) (o : Obj) (pm cd doc : Value) (a : Addr) (vs : List Value) (ns : List Int),
      Ground q loose [] XP w s₀ mg mb s₁.heap → YP w s₁.heap →
      s₁.heap.get? fa = some o → o.data = .func (docDef d.name d.params d.body d.scope pm cd doc) → s₁.heap.CodeRec cd d.name → mg d.name = some (.ref fa) →
      s₁.heap.get? a = some { cls := .type "list", data := .seq vs.toArray } → IntsAre vs ns → ns.length ≤ n →
      s.gens = #[] → s.os = s₁.os →
      Fr s₁.heap s₁.heap.objs.size s.heap (bindL (envOfC d.name d.scope s₁.heap.objs.size fa cd).kindOf [(x, .ref a)] fun _ => none) →
      Cl s₁.heap.objs.size (cellsFrom (s₁.heap.objs.size + 1) d.scope.names []) s.heap (bindC (envOfC d.name d.scope s₁.heap.objs.size fa cd).kindOf [(x, .ref a)] fun _ => none) →
      wpAny (model l.prog w) (callerA.deeper (envOfC d.name d.scope s₁.heap.objs.size fa cd)) (execs d.body (envOfC d.name d.scope s₁.heap.objs.size fa cd))
        (fun f s' => f = .ret (.bool true) ∧ (∀ b o, s₁.heap.get? b = some o → s'.heap.get? b = some o) ∧ s'.os = s₁.os ∧ s'.gens = #[]) (fun _ _ => False) s) :
    WalkN q loose XP YP l.row.toRowW d [] (fun f vs => PySem.call f vs) := by
  intro w s₀ s₁ mg mb G Y fa o pm cd doc dV kV ho hd hcd hD hmg hg args vals as hpre hlay hrd hwl hlo
  obtain rfl : dV = .none := Dflts.none hD hdf
  obtain rfl : kV = .none := Dflts.noKw hD
  obtain ⟨a, vs, ns, rfl, rfl, hobj, hints, hlen⟩ := script_of hn hpre hwl
  refine enter_callW ?_
  refine call_cells_ret (o := o) (by rw [depth_caller]; decide) ho (fd_plain hd) G.T.nolimit hcd (hbind pm cd doc (.ref a)) (fun y hy => ?_) (fun h₁ tk F X => ?_) hco hgen hk
  · obtain rfl : y = (x, Value.ref a) := List.mem_singleton.mp hy
    rcases hx with e | e
    · exact .inl e
    · exact .inr ⟨e, cellsFrom_some _ _ _ (.inl e)⟩
  · refine wpAny_mono (body w s₀ s₁ { s₁ with heap := h₁, toks := tk } mg mb fa o pm cd doc a vs ns G Y ho (fd_plain hd) hcd hmg hobj hints hlen hg rfl F X) (fun f s' hq => ?_) (fun _ _ hq => hq)
    obtain ⟨rfl, h2, h3, h4⟩ := hq
    exact ⟨.inl ⟨.bool true, .bool true, [], rfl, fun _ => rfl, .bool true, post_true l _, fun _ => ⟨List.Pairwise.nil, fun _ hm => (nomatch hm)⟩⟩, h2, h3, h4⟩

/-! ### rules over ANY heap (no ledger) from facts about the written part K: the library's own take a ledger (News) for what they write -/
section
variable {prog : Program} {w : World} {A : Around} {E : Value → Shared → Prop} {s : Shared} {K : Frag}

/-- a def of the module, or a method (qual 'C.m'), entered: the frame is the next address; cells behind it -/
theorem call_fn {R : Result → Shared → Prop} {name qual : Str} {params : Arguments} {body : List Stmt} {scope : Scope} {dV kV doc pm cdv ct oc : Value} {an od : Option Addr} {osl : Array (Option Value)} {f : Addr} {args : Args} {binds : List (Str × Value)}
    (X : K.In s.heap) (hlim : s.heap.NoLimit) (ho : K.lookup f = some ⟨oc, od, .func (fnOf name qual params body scope dV kV doc pm an cdv ct), osl⟩) (hcd : codeIn K cdv qual = true) (hroom : A.depth < recursionLimit)
    (hbind : BindsTo s (fnOf name qual params body scope dV kV doc pm an cdv ct) args binds)
    (hkind : (binds.all fun y => scope.names.lookup y.1 == some .local || scope.names.lookup y.1 == some .cell) = true)
    (h : ∀ s₁, InCallC s s.heap.objs.size (bindL (envOfC qual scope s.heap.objs.size f cdv).kindOf binds fun _ => none) (cellsFrom (s.heap.objs.size + 1) scope.names [])
        (bindC (envOfC qual scope s.heap.objs.size f cdv).kindOf binds fun _ => none) s₁ →
      wpAny (model prog w) (A.deeper (envOfC qual scope s.heap.objs.size f cdv)) (execs body (envOfC qual scope s.heap.objs.size f cdv))
        (fun fl s' => R (.ok (.ret (match fl with | .ret v => v | _ => .none))) s')
        (fun e s' => wpAny (model prog w) (A.deeper (envOfC qual scope s.heap.objs.size f cdv)) (leaving (envOfC qual scope s.heap.objs.size f cdv) e) (fun _ s'' => R (.error e) s'') (fun e' s'' => R (.error e') s'') s') s₁)
    (hco : scope.isCoroutine = false) (hgen : scope.isGenerator = false) (hk : scope.kind = .function) : codeAny (model prog w) A (.call (.ref f) args) R s := by
  refine codeAny_call_function hroom (X _ _ ho) rfl hco hgen rfl (codeRec_of X hcd) (hbind _ _ _ _ ?_)
  refine wpAny_newFunctionEnv_cells hk (kindsX hkind _) fun env he s₁ x => ?_
  subst he
  exact ⟨hlim.keeps x.toInCall.keep, codeAny_func (h s₁ x)⟩

/-- C(..): dict at size, instance at size + 1, then __init__ -/
theorem make_obj {R : Result → Shared → Prop} {C fI : Addr} {rest : List Value} {kw : List (Str × Value)}
    (X : K.In s.heap) (hm : makesIn K C = true) (hi : findIn K (.ref C) "__init__" = some (some (.ref fI))) (hf : isFn K (.ref fI) = true)
    (h : codeAny (model prog w) (A.under (.builtin "type.__call__" ⟨.ref C :: rest, kw⟩)) (.call (.ref fI) ⟨.ref (s.heap.objs.size + 1) :: rest, kw⟩) (InitBack (s.heap.objs.size + 1) R)
      { s with heap := (s.heap.push emptyDict).push (instObj C s.heap.objs.size) }) : codeAny (model prog w) A (.call (.ref C) ⟨rest, kw⟩) R s := by
  obtain ⟨hh, g, d, t, os⟩ := s
  exact make_core (makes_of X hm) (looks_findIn X hi) (fun self => bind_fn X self (beq_iff_eq.mp hf)) (.inl rfl) h

/-- x.name where the instance's dict holds the name and the class does not -/
theorem get_field {x C : Addr} {ox : Obj} {es : List DictEntry} {n : Nat} {name : Str} {expr : Bool} {v : Value} {Q : Value → Shared → Prop}
    (X : K.In s.heap) (I : PySem.W.InstAt s.heap x ox C (some (dictOf es n))) (hg : plainGet K C name = true) (hh : hasDictIn K C = true) (ha : findIn K (.ref C) name = some none)
    (hl : getL name es = some (some v)) (hv : handedIn v = true) (h : Q v { s with toks := s.toks + 1 }) : wpAny (model prog w) A (getAttr (.ref x) name expr) Q E s :=
  get_value X I (plainGet_of hg).1 (findObj_own hh ha rfl hl) hv h

/-- x.m(..): the method found in the class -/
theorem get_method {x C f : Addr} {ox : Obj} {es : List DictEntry} {n : Nat} {name : Str} {pl : Sem Bool} {Q : Value × List Value → Shared → Prop}
    (X : K.In s.heap) (I : PySem.W.InstAt s.heap x ox C (some (dictOf es n))) (hg : plainGet K C name = true) (hf : findIn K (.ref C) name = some (some (.ref f))) (ht : isFn K (.ref f) = true)
    (hl : getL name es = some none) (h : Q (.ref f, [.ref x]) s) : wpAny (model prog w) A (getMethod (.ref x) name pl) Q E s :=
  method_fn X I (plainGet_of hg).1 (plainGet_of hg).2 hf (beq_iff_eq.mp ht) (by show (lookIn name (dictOf es n)).map _ = _; rw [lookIn_dict, hl]; rfl) h

/-! the whole heap as the ledger: makes every rule that writes through a ledger a rule over any heap -/
def noObjs (h : Heap) : Heap := { h with objs := #[] }
theorem noObjs_get (h : Heap) (b : Addr) : (noObjs h).get? b = none := by
  cases e : (noObjs h).get? b with
  | none => rfl
  | some o => exact absurd (Heap.lt_size e) (Nat.not_lt_zero _)
def ledger (h : Heap) (L d : Addr) : List (Addr × Obj) := (List.range h.objs.size).filterMap fun a => if a = L ∨ a = d then none else (h.get? a).map fun o => (a, o)
theorem mem_ledger {h : Heap} {L d a : Addr} {o : Obj} : (a, o) ∈ ledger h L d ↔ a ≠ L ∧ a ≠ d ∧ h.get? a = some o := by
  unfold ledger
  rw [List.mem_filterMap]
  constructor
  · rintro ⟨b, _, e⟩
    split at e
    · cases e
    · rename_i hb
      obtain ⟨o', ho, e'⟩ := Option.map_eq_some_iff.mp e
      cases e'
      exact ⟨fun q => hb (.inl q), fun q => hb (.inr q), ho⟩
  · rintro ⟨n1, n2, ho⟩
    refine ⟨a, List.mem_range.mpr (Heap.lt_size ho), ?_⟩
    rw [if_neg (show ¬ (a = L ∨ a = d) from fun q => q.elim n1 n2), ho] <;> rfl
theorem news_ledger {h : Heap} {L d : Addr} {od : Obj} (hne : d ≠ L) (ho : h.get? d = some od) : News (noObjs h) L h ([] ++ (d, od) :: ledger h L d) := by
  rintro ⟨a, o⟩ hp
  rcases List.mem_cons.mp hp with e | hp
  · cases e
    exact ⟨ho, hne, noObjs_get _ _⟩
  · obtain ⟨n1, n2, e⟩ := mem_ledger.mp hp
    exact ⟨e, n1, noObjs_get _ _⟩
theorem fr_all {h : Heap} {L : Addr} {m : Str → Option Value} (n : h.Ns L m) : Fr (noObjs h) L h m :=
  ⟨n, fun b o e => (by rw [noObjs_get] at e; cases e), Nat.zero_le _⟩
/-- Upd of the head entry (for append_K, setItem_K ..) -/
theorem upd_ledger {h : Heap} {L d : Addr} {o o' : Obj} : Upd d o o' ((d, o) :: ledger h L d) ((d, o') :: ledger h L d) :=
  .head fun ⟨_, _⟩ hp => (mem_ledger.mp hp).2.1

/-- x.name = v over any heap: L is any namespace of the heap (the frame's, say): its map stays, its object is not told; all else but the dict stays -/
theorem set_field {x C dx L : Addr} {ox : Obj} {m : Str → Option Value} {es es' : List DictEntry} {n n' : Nat} {name : Str} {v : Value} {Q : Unit → Shared → Prop}
    (X : K.In s.heap) (I : PySem.W.InstAt s.heap x ox C (some (dictOf es n))) (hd : ox.dict = some dx) (hL : s.heap.Ns L m) (hne : dx ≠ L)
    (hs : findIn K (.ref C) "__setattr__" = some (some (.builtin "object.__setattr__"))) (hp : plainOver K C = true) (ht : takerIn K C name = some none) (hh : hasDictIn K C = true) (hl : (getL name es).isSome = true)
    (e : (putL name (PyData.keyHash w.params name) (.str name (s.toks + 1)) v es, putN name es n) = (es', n')) (hz : es'.length ≤ 1000)
    (h : ∀ h' : Heap, h'.Ns L m → h'.get? dx = some (dictOf es' n') → (∀ b o, b ≠ dx → b ≠ L → s.heap.get? b = some o → h'.get? b = some o) → Q () { s with heap := h', toks := s.toks + 2 }) :
    wpAny (model prog w) A (setAttr (.ref x) name v) Q E s := by
  obtain ⟨e1, e2⟩ := Prod.mk.inj e
  have hdx : s.heap.get? dx = some (dictOf es n) := by
    have := I.dict
    rw [hd] at this
    exact this
  refine set_plain X I hs (osa_dict (s := { s with toks := s.toks + 1 }) (h₀ := noObjs s.heap) (L := L) (m := m) (od := dictOf es n) (od' := dictOf es' n') (es := es') (n := n') (pre := []) (post := ledger s.heap L dx)
    (fr_all hL) (news_ledger hne hdx) X I hd hp ht hh hl (fun _ q => nomatch q) (fun ⟨_, _⟩ q => (mem_ledger.mp q).2.1) (by rw [putName_dict, e1, e2]) rfl hz fun h' F' N' => ?_)
  exact h h' F'.ns (N'.get (List.Mem.head _)) fun b o n1 n2 ho => N'.get (List.Mem.tail _ (mem_ledger.mpr ⟨n2, n1, ho⟩))
end
end Att

namespace L2
open PySem PySem.Spec PyProof.Rows

theorem vals_ints : ∀ {vs : List Value} {ns : List Int}, IntsAre vs ns → Vals (ns.map V.int) vs
  | _, _, .nil => .nil
  | _, _, .cons n t h => .cons ⟨t, rfl⟩ (vals_ints h)

/-- nothing is tracked but the script, known to the object (or it is an object of the module) -/
def Only (H : Hp) : Prop := ∀ b, H b = none ∨ ∃ o xs, H b = some (.frz o (.lst xs))

/-- THE HEAD: the law's promise, at the heap behind the top. F, the promise of the law's def, may use that base is part of the heap (so K.In base, base.Ns mainGlobals mg stand in Mod) -/
theorem law_call {P : Program} {w : World} {K : PySem.W.Frag} {mg mb : Str → Option Value} {CX : CXT} {k : Nat} {fa a : Addr} {fd : FuncData} {x : Str} {sp : Sp} {s₁ : Shared} {vs : List Value} {ns : List Int}
    (KX : K.In s₁.heap) (hns : s₁.heap.Ns mainGlobals mg) (hb : s₁.heap.Ns builtinsNs mb) (hbb : ∀ x : Str, x ≠ "__name__" → mb x = bootBuiltins x) (hlim : s₁.heap.NoLimit) (hg : s₁.gens = #[])
    (ha : s₁.heap.get? a = some { cls := .type "list", data := .seq vs.toArray }) (hi : IntsAre vs ns) (hl : ns.length ≤ sizeLine) (hr : Room k callerA)
    (F : ∀ base : Heap, K.In base → base.Ns mainGlobals mg → FnOk P w K mg base CX k fa fd [x] sp) (hbind : ∀ (s : Shared) (u : Value), BindsTo s fd ⟨[u], []⟩ [(x, u)])
    (hsp : ∀ H : Hp, Only H → SqL K H a (ns.map V.int) → sp [.ref a] H (fun v _ => v = .bl true) fun _ _ _ => False)
    (hCX : ∀ H e s', CX [] H s₁ (fun _ _ _ => False) e s' → False) :
    codeAny (model P w) callerA (.call (.ref fa) ⟨[.ref a], []⟩) (fun r s' => r = .ok (.ret (.bool true)) ∧ OldK s₁.heap s'.heap ∧ s'.os = s₁.os ∧ AllBare s'.gens) s₁ := by
  have rv := vals_ints hi
  have lenV := hi.length
  -- from an abstract heap in which nothing but the script may be tracked
  have core : ∀ H : Hp, Only H → SqL K H a (ns.map V.int) → HOk P w H s₁.heap → (∀ b, H b ≠ none → b = a) → (H a ≠ none → K.lookup a = none) →
      codeAny (model P w) callerA (.call (.ref fa) ⟨[.ref a], []⟩) (fun r s' => r = .ok (.ret (.bool true)) ∧ OldK s₁.heap s'.heap ∧ s'.os = s₁.os ∧ AllBare s'.gens) s₁ := by
    intro H hO hS hok hA hK
    have base_of : ∀ {b : Addr} {o : Obj}, s₁.heap.get? b = some o → H b = none → (hidT s₁.heap H).get? b = some o := fun e n => hidT_get e n
    have noA : ∀ {b : Addr} {o : Obj} {es : Array DictEntry} {ep : Nat}, s₁.heap.get? b = some o → o.data = .dict es ep → H b = none := fun {b o es ep} e d => by
      cases q : H b with
      | none => rfl
      | some u =>
        have e' : b = a := hA b (by rw [q]; simp)
        subst e'
        rw [ha] at e; cases e
        have d' : Data.seq vs.toArray _ = Data.dict es ep := d
        cases d'
    have nsK : ∀ {b : Addr} {m : Str → Option Value}, s₁.heap.Ns b m → (hidT s₁.heap H).Ns b m := fun {b m} ⟨o, es, ep, e, d, r⟩ => ⟨o, es, ep, base_of e (noA e d), d, r⟩
    have hKb : K.In (hidT s₁.heap H) := fun b o e => base_of (KX b o e) (by
      cases q : H b with
      | none => rfl
      | some u =>
        have e' : b = a := hA b (by rw [q]; simp)
        subst e'
        rw [hK (by rw [q]; simp)] at e; cases e)
    have hM : Mod K mg (hidT s₁.heap H) := ⟨hKb, nsK hns, ⟨mb, nsK hb, hbb⟩, let ⟨mc, h1, h2⟩ := hlim; ⟨mc, nsK h1, h2⟩⟩
    have e0 : Env0 P w K mg (hidT s₁.heap H) callerA [] s₁ H := ⟨rfl, hM, fun b o e => of_hidT e, Nat.le_of_eq (hidT_size _ _), trivial, fun b hb => absurd (show b ∈ ([] : List Addr) from hb) (by simp), hok, .of_eq hg⟩
    refine codeAny_mono ((F _ hKb (nsK hns)).run callerA [] s₁ H ⟨[.ref a], []⟩ [.ref a] [.ref a] _ _ hr e0 (hbind s₁ (.ref a)) (.cons rfl .nil) (hsp H hO hS)) fun r s' h => ?_
    cases r with
    | error e => exact (hCX H e s' h).elim
    | ok fl =>
      cases fl with
      | next => exact False.elim h
      | brk => exact False.elim h
      | cont => exact False.elim h
      | ret u =>
        obtain ⟨v, H', os, bare, un, hok', r', q⟩ := h
        have q' : v = .bl true := q
        subst q'
        obtain rfl : u = Value.bool true := r'
        refine ⟨rfl, OldK.of_keep fun b o e => ?_, os, bare⟩
        cases q : H b with
        | none => exact un.keep b o e q (by intro z; exact absurd (show b ∈ ([] : List Addr) from z) (by simp)) (by simp)
        | some u =>
          rcases hO b with z | ⟨ob, xs, z⟩
          · rw [q] at z; cases z
          · have z2 := un.frzs b ob _ z
            obtain ⟨e1, _⟩ := hok b _ z
            obtain ⟨e2, _⟩ := hok' b _ z2
            rw [e] at e1; cases e1
            exact e2
  cases hk : K.lookup a with
  | some o =>
    -- the script is one of the module's own objects
    have e := KX a o hk
    rw [ha] at e
    cases e
    refine core (fun _ => none) (fun _ => .inl rfl) (.inr ⟨_, vs.toArray, _, hk, rfl, rfl, rfl, by rw [List.size_toArray, lenV]; exact hl, by simpa using rv⟩) (fun b u z => by have z' : (none : Option HO) = some u := z; cases z') (fun b z => absurd rfl z) fun z => absurd rfl z
  | none =>
    refine core (fun b => if b = a then some (.frz { cls := .type "list", data := .seq vs.toArray } (.lst (ns.map V.int))) else none) (fun b => ?_) (.inl (.inr ⟨{ cls := .type "list", data := .seq vs.toArray }, if_pos rfl⟩)) (fun b u z => ?_) (fun b z => ?_) fun _ => hk
    · by_cases hb : b = a
      · exact .inr ⟨_, _, if_pos hb⟩
      · exact .inl (if_neg hb)
    · by_cases hb : b = a
      · have z' := (if_pos hb).symm.trans z
        cases z'
        subst hb
        exact ⟨ha, by rw [List.length_map]; exact hl, vs, _, rv, ha⟩
      · have z' := (if_neg hb).symm.trans z
        cases z'
    · by_cases hb : b = a
      · exact hb
      · exact absurd (if_neg hb) z
end L2

namespace L2
open PySem PySem.Spec PyProof.Rows

abbrev KOf {K : PySem.W.Frag} {h : Heap} (_ : K.In h) : PySem.W.Frag := K

/-- the goal that k_head leaves (case hc), from the law's promise. F gives the function object fd (K's own) once, then the promise over every base -/
theorem walk_of {l : PySem.W.OpenLaw} {n k : Nat} {q : Program} {loose : List Str} {XP : (Str → Option Value) → Heap → Prop} {YP : World → Heap → Prop} {d : DefRec} {K : Params → PySem.W.Frag} {CX : World → CXT} {sp : World → Sp} {x : Str}
    (hn : l.most = some n) (hn2 : n ≤ sizeLine) (hdf : d.params.defaults = []) (hr : Room k callerA)
    (hY : ∀ (w : World) (h : Heap), YP w h → (K w.params).In h)
    (F : ∀ (w : World) (mg : Str → Option Value) (fa : Addr) (h : Heap), (K w.params).In h → h.Ns mainGlobals mg → mg d.name = some (.ref fa) →
      ∃ fd : FuncData, (∀ (s : Shared) (u : Value), BindsTo s fd ⟨[u], []⟩ [(x, u)]) ∧
        ∀ base : Heap, (K w.params).In base → base.Ns mainGlobals mg → FnOk l.prog w (K w.params) mg base (CX w) k fa fd [x] (sp w))
    (hsp : ∀ (w : World) (H : Hp) (a : Addr) (ns : List Int), ns.length ≤ n → Only H → SqL (K w.params) H a (ns.map V.int) → sp w [.ref a] H (fun v _ => v = .bl true) fun _ _ _ => False)
    (hCX : ∀ (w : World) (H : Hp) (s : Shared) (e : Value) (s' : Shared), CX w [] H s (fun _ _ _ => False) e s' → False) :
    PySem.W.WalkO q loose XP YP l.row.toRowW d [] (fun f vs => PySem.call f vs) := by
  refine Att.attach_call hn hdf fun w s₀ s₁ mg mb fa o pm cd doc a vs ns G Y ho hd hcd hmg hobj hints hlen hg => ?_
  have KX := hY w _ Y
  obtain ⟨fd, hb, hF⟩ := F w mg fa _ KX G.T.g hmg
  exact law_call KX G.T.g G.T.b G.T.builtins G.T.nolimit hg hobj hints (Nat.le_trans hlen hn2) hr hF hb (fun H hO hS => hsp w H a ns hlen hO hS) fun H e s' => hCX w H s₁ e s'
/-- the same where the promise hangs on the written part alone: (sp := My.sp_law), no hole under a binder -/
theorem walk_ofK {l : PySem.W.OpenLaw} {n k : Nat} {q : Program} {loose : List Str} {XP : (Str → Option Value) → Heap → Prop} {YP : World → Heap → Prop} {d : DefRec} {K : Params → PySem.W.Frag} {CX : CXT} {sp : PySem.W.Frag → Sp} {x : Str}
    (hn : l.most = some n) (hn2 : n ≤ sizeLine) (hdf : d.params.defaults = []) (hr : Room k callerA)
    (hY : ∀ (w : World) (h : Heap), YP w h → (K w.params).In h)
    (F : ∀ (w : World) (mg : Str → Option Value) (fa : Addr) (h : Heap), (K w.params).In h → h.Ns mainGlobals mg → mg d.name = some (.ref fa) →
      ∃ fd : FuncData, (∀ (s : Shared) (u : Value), BindsTo s fd ⟨[u], []⟩ [(x, u)]) ∧
        ∀ base : Heap, (K w.params).In base → base.Ns mainGlobals mg → FnOk l.prog w (K w.params) mg base CX k fa fd [x] (sp (K w.params)))
    (hsp : ∀ (K : PySem.W.Frag) (H : Hp) (a : Addr) (ns : List Int), ns.length ≤ n → Only H → SqL K H a (ns.map V.int) → sp K [.ref a] H (fun v _ => v = .bl true) fun _ _ _ => False)
    (hCX : ∀ (H : Hp) (s : Shared) (e : Value) (s' : Shared), CX [] H s (fun _ _ _ => False) e s' → False) :
    PySem.W.WalkO q loose XP YP l.row.toRowW d [] (fun f vs => PySem.call f vs) :=
  walk_of (K := K) (CX := fun _ => CX) (sp := fun w => sp (K w.params)) hn hn2 hdf hr hY F (fun w H a ns h1 h2 h3 => hsp (K w.params) H a ns h1 h2 h3) fun _ H s e s' => hCX H s e s'
end L2

/- THE LAST THEOREM (shape; LID, My.* are yours):
   My.Adr: a structure of the addresses that your layer names (classes, functions); My.Txt K t: a structure (Prop) of the equations over K;
   My.txt_mk : {K} {implicit addresses ..} (e1 : nsIn K mainGlobals "law" = some (some (.ref f))) (e2 : K.lookup f = some ⟨oc, od, .func (fnOf "law" "law" params body scope dV kV doc pm an cdv ct), sl⟩) (e3 : codeIn K cdv "law" = true) .. : ∃ t, My.Txt K t

set_option maxRecDepth 100000 in
set_option maxHeartbeats 0 in
theorem PySem.Challenge.cw_LID_holds : PySem.Challenge.rw_LID.Holds := by
  w_on; o_law; k_head; (case hw => w_witness2)
  k_fill
  refine L2.walk_of (l := PySem.Challenge.rw_LID) (n := 63) (k := 40) (x := "script") (CX := fun w => ..) (sp := fun _ => My.sp_law) rfl (by decide) rfl ⟨rfl, by decide, by decide⟩ (fun w h Y => PySem.W.kIn_of Y) ?F ?S ?C
  case F =>
    intro w mg fa h KX G hmg
    have T : ∃ t, My.Txt (L2.KOf KX) t := by
      dsimp only [L2.KOf]                          -- K must stand as «<heap const> w.params» for k_is
      refine' My.txt_mk ?e1 ?e2 ?e3 ..
      (case e1 => PySem.W.k_is)                    -- in the order: a name -> its address -> its object -> its parts
      (case e2 => PySem.W.k_is)
      ..
    obtain ⟨t, T⟩ := T
    have e0 := hmg.symm.trans (PySem.W.mg_of KX G T.law)
    cases e0                                       -- fa is the law's own address
    exact ⟨_, fun s u => .of_eq rfl, fun base kb nb => My.law_fn T kb nb⟩     -- if «.of_eq rfl» comes too early: refine' ⟨_, ?b, fun base kb nb => My.law_fn T kb nb⟩; exact fun s u => .of_eq rfl
  case S => exact fun w H a ns hl hO hS => ..
  case C => exact ..
(the tactic k_is has no namespace: write k_is) -/

/-! SHORT WORDS over the layer: a def of the text, its body, what a loop and a test want. -/
namespace L2
open PySem PySem.Spec PyProof.Rows

/-! ### the text by places -/
/-- the j-th statement of a class's body -/
def inClass (s : Stmt) (j : Nat) : Stmt := match s with
  | .ClassDef _ _ _ body _ _ _ _ _ _ _ => body.getD j (.Pass ⟨0, 0, 0, 0⟩)
  | _ => .Pass ⟨0, 0, 0, 0⟩
def defArgs (s : Stmt) : Arguments := match s with
  | .FunctionDef _ a _ _ _ _ _ _ _ _ => a
  | _ => { posonlyargs := [], args := [], vararg := none, kwonlyargs := [], kw_defaults := [], kwarg := none, defaults := [] }
def defBody (s : Stmt) : List Stmt := match s with
  | .FunctionDef _ _ b _ _ _ _ _ _ _ => b
  | _ => []
def defScope (s : Stmt) : Scope := match s with
  | .FunctionDef _ _ _ _ _ _ sc _ _ _ => sc
  | _ => { kind := .function, names := [], isGenerator := false, isCoroutine := false }

/-! ### no exception leaves a def -/
abbrev CX0 : CXT := fun _ _ _ _ _ _ => False
abbrev E0 : XK := fun _ _ _ => False
theorem pass0 {X : Cx} : Passes CX0 X E0 := fun _ _ _ _ _ _ _ h => h.elim

/-! ### a def (or method) of the text as it stands behind the top -/
structure Fun (K : PySem.W.Frag) (x qual : Str) (st : Stmt) (f : Addr) (fd : FuncData) : Prop where
  ex : ∃ (oc : Value) (od : Option Addr) (kV doc pm : Value) (an : Option Addr) (cdv ct : Value) (osl : Array (Option Value)),
    fd = PySem.W.fnOf x qual (defArgs st) (defBody st) (defScope st) .none kV doc pm an cdv ct ∧ K.lookup f = some ⟨oc, od, .func fd, osl⟩ ∧ PySem.W.codeIn K cdv qual = true
  kp : PySem.W.keepIn K (.ref f) = true
section
variable {P : Program} {w : World} {K : PySem.W.Frag} {mg : Str → Option Value} {base : Heap}
/-- THE RULE for a def: its body as a term of rules, and the reading of that term -/
theorem Fun.ok {x qual : Str} {st : Stmt} {f : Addr} {fd : FuncData} {N ps : List Str} {k : Nat} {sp : Sp} (F : Fun K x qual st f fd) (S : FnScope N ps (defScope st)) (len : ∀ vs H Q E, sp vs H Q E → vs.length = ps.length)
    (hbody : ∀ (cdv : Value) (A : Around) (outer : List Env) (s : Shared) (H : Hp) (vs : List V) (Q : VK) (E : XK), Room k (A.deeper (envOfC qual (defScope st) s.heap.objs.size f cdv)) → sp vs H Q E →
      ∃ t, PSs (cxOf CX0 P w K mg base N qual (defScope st) f cdv A outer s H E).nox (defBody st) t ∧ t { nx := fun _ H' => Q .non H', rt := Q } (start N vs) H) : FnOk P w K mg base CX0 (k + 1) f fd ps sp := by
  obtain ⟨oc, od, kV, doc, pm, an, cdv, ct, osl, rfl, lk, hcd⟩ := F.ex
  refine fn_of lk hcd S len fun A outer s H vs Q E hr hsp => ?_
  obtain ⟨t, h, q⟩ := hbody cdv A outer s H vs Q E hr hsp
  exact ⟨t, h.nox, q⟩
/-- how its arguments bind (no defaults): h is «fun _ _ _ _ _ _ us hl => match us, hl with | [_, _], _ => rfl», one _ a parameter -/
theorem Fun.binds {x qual : Str} {st : Stmt} {f : Addr} {fd : FuncData} {ps : List Str} (F : Fun K x qual st f fd)
    (h : ∀ (kV doc pm : Value) (an : Option Addr) (cdv ct : Value) (us : List Value), us.length = ps.length → bindArgs (PySem.W.fnOf x qual (defArgs st) (defBody st) (defScope st) .none kV doc pm an cdv ct) ⟨us, []⟩ = pure (ps.zip us)) : Binds K fd ps [] := by
  obtain ⟨oc, od, kV, doc, pm, an, cdv, ct, osl, rfl, lk, hcd⟩ := F.ex
  exact .all (h kV doc pm an cdv ct)
theorem fun_mk {x qual : Str} {st : Stmt} {f : Addr} {oc : Value} {od an : Option Addr} {osl : Array (Option Value)} {kV doc pm cdv ct : Value} (l : K.lookup f = some ⟨oc, od, .func (PySem.W.fnOf x qual (defArgs st) (defBody st) (defScope st) .none kV doc pm an cdv ct), osl⟩)
    (c : PySem.W.codeIn K cdv qual = true) (k : PySem.W.keepIn K (.ref f) = true) : Fun K x qual st f (PySem.W.fnOf x qual (defArgs st) (defBody st) (defScope st) .none kV doc pm an cdv ct) := ⟨⟨oc, od, kV, doc, pm, an, cdv, ct, osl, rfl, l, c⟩, k⟩
end
theorem hu_of {A : Around} {k : Nat} (hr : Room k A) : A.units + 1 < cLine := Nat.lt_of_le_of_lt (Nat.add_le_add_left (by decide : 1 ≤ 64) _) hr.units
theorem small1000 {n : Nat} (h : n ≤ 1000) : n < sizeLine := Nat.lt_of_le_of_lt h (by decide)

/-! ### expressions in short: the name that stands in the i-th slot -/
section
variable {X : Cx}
theorem pv (i : Nat) {x : Str} {pos : Pos} (hN : X.N[i]? = some x := by rfl) (hv : Vis X.env.scope x := by first | exact Or.inl rfl | exact Or.inr (Or.inl rfl) | exact Or.inr (Or.inr rfl)) (hd : (x == ("__debug__" : Str)) = false := by decide)
    (hcd : (x == ("__classdict__" : Str)) = false := by decide) : PE X (.Name x pos) (tVar i) := pe_var hN hv hd hcd
/-- len of a dict -/
theorem call_lenD : CallR X (.builtin "len") (fun xs H Q => ∃ a kvs, xs = [V.ref a] ∧ H a = some (.dK kvs) ∧ Q (.int kvs.length) H) := by
  intro pins s σ H xs us Q I r h
  obtain ⟨a, kvs, rfl, ha, q⟩ := h
  obtain ⟨u, rfl, ru⟩ := vals1 r
  cases ru
  exact d_len I (.inl ha) fun t s' I' => ⟨.int kvs.length, H, I', ⟨t, rfl⟩, q⟩
end

/-! ### tests -/
theorem iteF {A B : Prop} (h : B) : if false = true then A else B := by
  rw [if_neg Bool.false_ne_true]
  exact h
theorem iteT {A B : Prop} (h : A) : if true = true then A else B := by
  rw [if_pos rfl]
  exact h
theorem ite2 {c A B : Prop} [Decidable c] (h1 : c → A) (h2 : ¬ c → B) : if c then A else B := by
  by_cases h : c
  · rw [if_pos h]
    exact h1 h
  · rw [if_neg h]
    exact h2 h
theorem iteNS {c A B : Prop} [Decidable c] (hc : c) (h : B) : if (!decide c) = true then A else B := by
  rw [decide_eq_true hc]
  exact iteF h

/-! ### heaps -/
/-- all that was tracked is as it was -/
def Same (H H' : Hp) : Prop := ∀ b o, H b = some o → H' b = some o
theorem Same.refl (H : Hp) : Same H H := fun _ _ h => h
theorem Same.trans {H H1 H2 : Hp} (a : Same H H1) (b : Same H1 H2) : Same H H2 := fun c o h => b c o (a c o h)
theorem Same.free {H H' : Hp} (e : Same H H') {l : Addr} (h : H' l = Option.none) : H l = Option.none := by
  cases q : H l with
  | none => rfl
  | some o =>
    rw [e l o q] at h
    cases h
theorem Same.seq {K : PySem.W.Frag} {H H' : Hp} {a : Addr} {xs : List V} (e : Same H H') (h : SqL K H a xs) : SqL K H' a xs := by
  rcases h with (h | ⟨o, h⟩) | h
  · exact .inl (.inl (e _ _ h))
  · exact .inl (.inr ⟨o, e _ _ h⟩)
  · exact .inr h

/-! ### a dict's pairs: keys that differ -/
section
variable {κ : Type} [DecidableEq κ]
theorem valV_not {kvs : List (κ × V)} {k : κ} (h : valV kvs k = none) : ¬ k ∈ kvs.map (·.1) := by
  intro m
  obtain ⟨p, hp, e⟩ := List.mem_map.mp m
  have q : (kvs.any fun kv => decide (kv.1 = k)) = true := List.any_eq_true.mpr ⟨p, hp, decide_eq_true e⟩
  rw [valV_any, h] at q
  exact absurd q (by simp)
theorem valV_in {kvs : List (κ × V)} {k : κ} {v : V} (h : valV kvs k = some v) : k ∈ kvs.map (·.1) := by
  have q : (kvs.any fun kv => decide (kv.1 = k)) = true := by
    rw [valV_any, h]
    all_goals rfl
  obtain ⟨p, hp, e⟩ := List.any_eq_true.mp q
  exact List.mem_map.mpr ⟨p, hp, of_decide_eq_true e⟩
theorem nd_snoc : ∀ {l : List κ} {k : κ}, l.Nodup → ¬ k ∈ l → (l ++ [k]).Nodup
  | [], k, _, _ => by simp
  | a :: r, k, h, hk => by
    obtain ⟨h1, h2⟩ := List.nodup_cons.mp h
    show (a :: (r ++ [k])).Nodup
    refine List.nodup_cons.mpr ⟨fun m => ?_, nd_snoc h2 fun m => hk (List.mem_cons.mpr (Or.inr m))⟩
    rcases List.mem_append.mp m with q | q
    · exact h1 q
    · exact hk (List.mem_cons.mpr (Or.inl (List.mem_singleton.mp q).symm))
theorem nd_putK {kvs : List (κ × V)} {k : κ} (v : V) (hn : (kvs.map (·.1)).Nodup) (h : valV kvs k = none) : ((putK kvs k v).map (·.1)).Nodup := by
  rw [putK_new v h, List.map_append]
  exact nd_snoc hn (valV_not h)
theorem dropK_pos {p : κ × V} {r : List (κ × V)} {k : κ} (e : p.1 = k) : dropK (p :: r) k = dropK r k := by
  unfold dropK
  rw [List.filter_cons, if_neg (by simp [e])]
theorem dropK_neg {p : κ × V} {r : List (κ × V)} {k : κ} (e : ¬ p.1 = k) : dropK (p :: r) k = p :: dropK r k := by
  unfold dropK
  rw [List.filter_cons, if_pos (by simp [e])]
theorem dropK_no : ∀ {kvs : List (κ × V)} {k : κ}, ¬ k ∈ kvs.map (·.1) → dropK kvs k = kvs
  | [], _, _ => rfl
  | p :: r, k, h => by
    have h' : ¬ k ∈ r.map (·.1) := fun m => by
      obtain ⟨q, hq, e⟩ := List.mem_map.mp m
      exact h (List.mem_map.mpr ⟨q, List.mem_cons.mpr (Or.inr hq), e⟩)
    rw [dropK_neg fun e => h (List.mem_map.mpr ⟨p, List.mem_cons.mpr (Or.inl rfl), e⟩), dropK_no h']
theorem dropK_mem {kvs : List (κ × V)} {k : κ} {p : κ × V} (h : p ∈ dropK kvs k) : p ∈ kvs := (List.mem_filter.mp h).1
theorem nd_dropK : ∀ {kvs : List (κ × V)} {k : κ}, (kvs.map (·.1)).Nodup → ((dropK kvs k).map (·.1)).Nodup
  | [], _, _ => List.nodup_nil
  | p :: r, k, h => by
    have h : (p.1 :: r.map (·.1)).Nodup := h
    obtain ⟨h1, h2⟩ := List.nodup_cons.mp h
    by_cases e : p.1 = k
    · rw [dropK_pos e]
      exact nd_dropK h2
    · rw [dropK_neg e]
      show (p.1 :: (dropK r k).map (·.1)).Nodup
      refine List.nodup_cons.mpr ⟨fun m => h1 ?_, nd_dropK h2⟩
      obtain ⟨q, hq, eq⟩ := List.mem_map.mp m
      exact List.mem_map.mpr ⟨q, dropK_mem hq, eq⟩
theorem dropK_len : ∀ {kvs : List (κ × V)} {k : κ}, (kvs.map (·.1)).Nodup → k ∈ kvs.map (·.1) → (dropK kvs k).length + 1 = kvs.length
  | [], _, _, m => by simp at m
  | p :: r, k, h, m => by
    have h : (p.1 :: r.map (·.1)).Nodup := h
    have m : k = p.1 ∨ k ∈ r.map (·.1) := List.mem_cons.mp m
    obtain ⟨h1, h2⟩ := List.nodup_cons.mp h
    by_cases e : p.1 = k
    · subst e
      rw [dropK_pos rfl, dropK_no h1]
      all_goals rfl
    · have m' : k ∈ r.map (·.1) := m.resolve_left fun z => e z.symm
      have q := dropK_len h2 m'
      rw [dropK_neg e, List.length_cons, List.length_cons]
      omega
end
/-! ### lists -/
theorem at_of {xs : List V} {z : Int} {j : Nat} {v : V} (e : z = (j : Int)) (h : xs[j]? = some v) : atI xs z = some v := by
  rw [e]
  exact atI_nat h
theorem nd_ix {α : Type} {l : List α} (hN : l.Nodup) {i j : Nat} {x : α} (a : l[i]? = some x) (b : l[j]? = some x) : i = j := by
  obtain ⟨h1, e1⟩ := List.getElem?_eq_some_iff.mp a
  obtain ⟨h2, e2⟩ := List.getElem?_eq_some_iff.mp b
  exact (List.getElem_inj hN).mp (e1.trans e2.symm)
theorem sum_set : ∀ {l : List Int} {j : Nat} {z y : Int}, l[j]? = some z → (l.set j y).sum = l.sum - z + y
  | [], j, z, y, h => by simp at h
  | a :: r, 0, z, y, h => by
    have e : a = z := Option.some.inj h
    subst e
    show (y :: r).sum = (a :: r).sum - a + y
    rw [List.sum_cons, List.sum_cons]
    omega
  | a :: r, j + 1, z, y, h => by
    have ih := sum_set (l := r) (j := j) (z := z) (y := y) h
    show (a :: r.set j y).sum = (a :: r).sum - z + y
    rw [List.sum_cons, List.sum_cons, ih]
    omega
theorem sum_take : ∀ {l : List Int} {i : Nat} {z : Int}, l[i]? = some z → (l.take (i + 1)).sum = (l.take i).sum + z
  | [], i, z, h => by simp at h
  | a :: r, 0, z, h => by
    have e : a = z := Option.some.inj h
    subst e
    show ([a] : List Int).sum = ([] : List Int).sum + a
    rw [List.sum_cons]
    exact Int.add_comm _ _
  | a :: r, i + 1, z, h => by
    have ih := sum_take (l := r) (i := i) (z := z) h
    show (a :: r.take (i + 1)).sum = (a :: r.take i).sum + z
    rw [List.sum_cons, List.sum_cons, ih]
    omega
/-- a new instance and its __init__ leave all that was tracked as it was -/
theorem Same.made {H H1 : Hp} {x dx C : Addr} (nx : H x = Option.none) (nd : H dx = Option.none) (k : ∀ b o, (upd (upd H dx (.own x)) x (.ins C dx [])) b = some o → b ≠ x → H1 b = some o) : Same H H1 := fun b o e =>
  k b o (by rw [upd_ne (ne_of_none e nx), upd_ne (ne_of_none e nd)]; exact e) (ne_of_none e nx)
end L2

namespace Ev
open PySem L2

/-! ### values, objects, results -/
inductive D where
  | non | bl (b : Bool) | int (i : Int) | str (x : List Nat) | tup (xs : List D) | lst (xs : List D) | obj (n : Nat)
/-- a key's part: an int or a text -/
inductive Ky where
  | i (n : Int) | s (x : List Nat)
  deriving DecidableEq
inductive AO where
  | lst (xs : List D) | dct (kvs : List (List Ky × D)) | ins (C : Nat) (fs : List (Nat × D))
abbrev Sto := List AO
abbrev Nv := List (Option D)
inductive Res (α : Type) where
  | ok (a : α) (S : Sto) | bad
def Res.bind {α β : Type} : Res α → (α → Sto → Res β) → Res β
  | .ok a S, f => f a S
  | .bad, _ => .bad
theorem Res.bind_ok {α β : Type} {r : Res α} {f : α → Sto → Res β} {b : β} {S : Sto} (h : r.bind f = .ok b S) : ∃ a S1, r = .ok a S1 ∧ f a S1 = .ok b S := by
  cases r with
  | ok a S1 => exact ⟨a, S1, rfl, h⟩
  | bad => cases h

/-! ### operations on values -/
inductive Op where
  | add | sub | mul | fdiv | mod | eq | ne | lt | le | gt | ge | isin | notin | isnone | notnone
  | len | tuple | join | sindex | append | neg | sum | extend
  deriving DecidableEq
/-- the item at a place of any sign -/
def ixD (n : Nat) (i : Int) : Option Nat := if 0 ≤ i then (if i < n then some i.toNat else none) else if -(n : Int) ≤ i then some (i + n).toNat else none
def sizeL : Nat := 16777216
mutual
def toPD : D → Option PyData
  | .non => some .none
  | .bl b => some (.bool b)
  | .int i => some (.int i)
  | .str x => some (.str ⟨x.toArray⟩)
  | .tup xs => (toPDs xs).map .tuple
  | .lst xs => (toPDs xs).map .list
  | .obj _ => none
def toPDs : List D → Option (List PyData)
  | [] => some []
  | x :: xs => (toPD x).bind fun y => (toPDs xs).map fun ys => y :: ys
end
mutual
/-- == of data without objects -/
def eqD : D → D → Bool
  | .non, .non => true
  | .bl a, .bl b => a == b
  | .bl a, .int j => (if a then 1 else 0) == j
  | .int i, .bl b => i == (if b then 1 else 0)
  | .int i, .int j => i == j
  | .str x, .str y => x == y
  | .lst xs, .lst ys => eqDs xs ys
  | .tup xs, .tup ys => eqDs xs ys
  | _, _ => false
def eqDs : List D → List D → Bool
  | [], [] => true
  | x :: xs, y :: ys => eqD x y && eqDs xs ys
  | _, _ => false
end
mutual
/-- of no objects, of signs that are signs, at most so deep -/
def okD : Nat → D → Bool
  | _, .non => true
  | _, .bl _ => true
  | _, .int _ => true
  | _, .str x => x.all fun c => decide (c < 0x110000)
  | n + 1, .tup xs => okDs n xs
  | n + 1, .lst xs => okDs n xs
  | _, _ => false
def okDs : Nat → List D → Bool
  | _, [] => true
  | n, x :: xs => okD n x && okDs n xs
end
/-- flat: no list, no tuple, no object -/
def flatD : D → Bool
  | .non => true | .bl _ => true | .int _ => true | .str _ => true | _ => false
/-- equal flat things; an int and a truth are not held against one another -/
def scalD : D → D → Bool
  | .non, .non => true | .non, .int _ => true | .int _, .non => true | .non, .bl _ => true | .bl _, .non => true | .non, .str _ => true | .str _, .non => true
  | .int _, .int _ => true | .bl _, .bl _ => true | .str _, .str _ => true
  | .int _, .str _ => true | .str _, .int _ => true | .bl _, .str _ => true | .str _, .bl _ => true
  | _, _ => false
def okV {α : Type} (c : Bool) (a : α) (S : Sto) : Res α := if c then .ok a S else .bad
def addD : D → D → Sto → Res D
  | .int i, .int j, S => .ok (.int (i + j)) S
  | .str x, .str y, S => okV (decide (x.length + y.length ≤ sizeL)) (.str (x ++ y)) S
  | .tup x, .tup y, S => okV (decide (x.length + y.length ≤ sizeL)) (.tup (x ++ y)) S
  | .lst x, .lst y, S => okV (decide (x.length + y.length ≤ sizeL)) (.lst (x ++ y)) S
  | _, _, _ => .bad
def subD : D → D → Sto → Res D
  | .int i, .int j, S => .ok (.int (i - j)) S
  | _, _, _ => .bad
/-- one factor is small -/
def cmulB (i j : Int) : Bool := (decide (-18446744073709551616 < i) && decide (i < 18446744073709551616)) || (decide (-18446744073709551616 < j) && decide (j < 18446744073709551616))
def mulD : D → D → Sto → Res D
  | .int i, .int j, S => okV (cmulB i j) (.int (i * j)) S
  | _, _, _ => .bad
def fdivD : D → D → Sto → Res D
  | .int i, .int j, S => okV (decide (0 < j) && decide (j < 1073741824)) (.int (i / j)) S
  | _, _, _ => .bad
def modD : D → D → Sto → Res D
  | .int i, .int j, S => okV (decide (0 < j)) (.int (i % j)) S
  | _, _, _ => .bad
def eqT (a b : D) : Bool := scalD a b || (okD 64 a && okD 64 b)
def cmpI (p : Int → Int → Bool) : D → D → Sto → Res D
  | .int i, .int j, S => .ok (.bl (p i j)) S
  | _, _, _ => .bad
def inD (x : D) (xs : List D) : Bool := xs.any fun y => eqD y x
def isinD : D → D → Option Bool
  | .str [c], .str z => some (z.contains c)
  | .str x, .tup xs => if xs.all flatD then some (inD (.str x) xs) else none
  | .str x, .lst xs => if xs.all flatD then some (inD (.str x) xs) else none
  | .int i, .tup xs => if xs.all flatD then some (inD (.int i) xs) else none
  | .int i, .lst xs => if xs.all flatD then some (inD (.int i) xs) else none
  | _, _ => none
def isNon : D → Bool
  | .non => true | _ => false
def binD : Op → D → D → Sto → Res D
  | .add => addD
  | .sub => subD
  | .mul => mulD
  | .fdiv => fdivD
  | .mod => modD
  | _ => fun _ _ _ => .bad
def cmpD : Op → D → D → Sto → Res D
  | .eq => fun a b S => okV (eqT a b) (.bl (eqD a b)) S
  | .ne => fun a b S => okV (eqT a b) (.bl (!eqD a b)) S
  | .lt => cmpI fun i j => decide (i < j)
  | .le => cmpI fun i j => decide (i ≤ j)
  | .gt => cmpI fun i j => decide (j < i)
  | .ge => cmpI fun i j => decide (j ≤ i)
  | .isin => fun a b S => match isinD a b with | some k => .ok (.bl k) S | none => .bad
  | .notin => fun a b S => match isinD a b with | some k => .ok (.bl (!k)) S | none => .bad
  | .isnone => fun a b S => okV (isNon b) (.bl (isNon a)) S
  | .notnone => fun a b S => okV (isNon b) (.bl (!isNon a)) S
  | _ => fun _ _ _ => .bad
/-- a list or tuple that is read -/
def itemsD : D → Sto → Option (List D)
  | .tup xs, _ => some xs
  | .lst xs, _ => some xs
  | .obj n, S => match S[n]? with | some (.lst xs) => some xs | _ => none
  | _, _ => none
def idxD : D → D → Sto → Res D
  | .str x, .int i, S => if x.length ≤ sizeL then (match (ixD x.length i).bind fun j => x[j]? with | some c => .ok (.str [c]) S | none => .bad) else .bad
  | d, .int i, S => match itemsD d S with
    | some xs => (match (ixD xs.length i).bind fun j => xs[j]? with | some v => .ok v S | none => .bad)
    | none => .bad
  | _, _, _ => .bad
def sIxD (n d : Nat) : Option Int → Nat
  | none => d
  | some v => if v < 0 then (v + (n : Int)).toNat else min v.toNat n
def cutD {α : Type} (xs : List α) (lo hi : Option Int) : List α := (xs.drop (sIxD xs.length 0 lo)).take (sIxD xs.length xs.length hi - sIxD xs.length 0 lo)
def slD : D → Option Int → Option Int → Sto → Res D
  | .str x, lo, hi, S => okV (decide (x.length ≤ sizeL)) (.str (cutD x lo hi)) S
  | .tup xs, lo, hi, S => okV (!(decide (sIxD xs.length 0 lo = 0) && decide (sIxD xs.length xs.length hi = xs.length))) (.tup (cutD xs lo hi)) S
  | .lst xs, lo, hi, S => .ok (.lst (cutD xs lo hi)) S
  | _, _, _, _ => .bad
def truD : D → Sto → Option Bool
  | .non, _ => some false
  | .bl b, _ => some b
  | .int i, _ => some (i != 0)
  | .str x, _ => if x.length ≤ sizeL then some (!x.isEmpty) else none
  | .tup xs, _ => some (!xs.isEmpty)
  | .lst xs, _ => some (!xs.isEmpty)
  | .obj n, S => match S[n]? with | some (.lst xs) => some (!xs.isEmpty) | _ => none
def lenD : D → Sto → Option Nat
  | .str x, _ => if x.length ≤ sizeL then some x.length else none
  | d, S => (itemsD d S).map List.length
def strsD : List D → Option (List (List Nat))
  | [] => some []
  | .str x :: r => (strsD r).map fun ys => x :: ys
  | _ => none
def intsD : List D → Option (List Int)
  | [] => some []
  | .int x :: r => (intsD r).map fun ys => x :: ys
  | _ => none
/-- a call of a built-in -/
def bLen : List D → Sto → Res D
  | [d], S => match lenD d S with | some n => .ok (.int n) S | none => .bad
  | _, _ => .bad
def bTuple : List D → Sto → Res D
  | [d], S => match itemsD d S with | some xs => .ok (.tup xs) S | none => .bad
  | _, _ => .bad
def bSum : List D → Sto → Res D
  | [.lst xs], S => match intsD xs with | some ns => .ok (.int ns.sum) S | none => .bad
  | _, _ => .bad
def bltD : Op → List D → Sto → Res D
  | .len => bLen
  | .tuple => bTuple
  | .sum => bSum
  | _ => fun _ _ => .bad
def keyD : D → Option Ky
  | .int i => some (.i i)
  | .str x => some (.s x)
  | _ => none
def keysD : List D → Option (List Ky)
  | [] => some []
  | d :: r => (keyD d).bind fun k => (keysD r).map fun ks => k :: ks
/-- a way: numbers alone -/
def keysI : List D → Option (List Ky)
  | [] => some []
  | .int i :: r => (keysI r).map fun ks => .i i :: ks
  | _ => none
def valD {κ : Type} [DecidableEq κ] (kvs : List (κ × D)) (k : κ) : Option D := (kvs.find? fun kv => decide (kv.1 = k)).map (·.2)
def putD {κ : Type} [DecidableEq κ] (kvs : List (κ × D)) (k : κ) (v : D) : List (κ × D) :=
  if kvs.any (fun kv => decide (kv.1 = k)) then kvs.map fun kv => if kv.1 = k then (kv.1, v) else kv else kvs ++ [(k, v)]
def putFD (f : Nat) (v : D) : List (Nat × D) → List (Nat × D)
  | [] => [(f, v)]
  | (g, x) :: r => if g = f then (g, v) :: r else (g, x) :: putFD f v r
def joinS (sep : List Nat) : List (List Nat) → List Nat
  | [] => []
  | [x] => x
  | x :: y :: r => x ++ sep ++ joinS sep (y :: r)
def firstIx {α : Type} (p : α → Bool) : List α → Option Nat
  | [] => none
  | x :: r => if p x then some 0 else (firstIx p r).map (· + 1)
/-- a method of a built-in -/
def mAppend : D → List D → Sto → Res D
  | .obj n, [d], S => match S[n]? with | some (.lst xs) => okV (decide (xs.length < sizeL)) .non (S.set n (.lst (xs ++ [d]))) | _ => .bad
  | _, _, _ => .bad
def mExtend : D → List D → Sto → Res D
  | .obj n, [.lst ys], S => match S[n]? with | some (.lst xs) => okV (decide (xs.length + ys.length ≤ sizeL)) .non (S.set n (.lst (xs ++ ys))) | _ => .bad
  | _, _, _ => .bad
def mJoin : D → List D → Sto → Res D
  | .str x, [d], S => match (itemsD d S).bind strsD with | some ys => okV (decide ((ys.map List.length).sum + ys.length * x.length ≤ 16777216)) (.str (joinS x ys)) S | none => .bad
  | _, _, _ => .bad
def mIndex : D → List D → Sto → Res D
  | .str z, [.str y], S => match Builtin.Str.occurrences ⟨z.toArray⟩ ⟨y.toArray⟩ 0 z.length 1 with | j :: _ => .ok (.int j) S | [] => .bad
  | _, _, _ => .bad
def mGet : D → List D → Sto → Res D
  | .obj n, [.tup k, d], S => match S[n]?, keysI k with | some (.dct kvs), some ks => .ok ((valD kvs ks).getD d) S | _, _ => .bad
  | _, _, _ => .bad
def bmD : Op → D → List D → Sto → Res D
  | .append => mAppend
  | .extend => mExtend
  | .join => mJoin
  | .sindex => mIndex
  | _ => fun _ _ _ => .bad

/-- the receiver is of the method's kind -/
def isLO : D → Sto → Bool
  | .obj n, S => match S[n]? with | some (.lst _) => true | _ => false
  | _, _ => false
def isDO : D → Sto → Bool
  | .obj n, S => match S[n]? with | some (.dct _) => true | _ => false
  | _, _ => false
def isSD : D → Sto → Bool
  | .str _, _ => true
  | _, _ => false
def bmPre : Op → D → Sto → Bool
  | .append => isLO
  | .extend => isLO
  | .join => isSD
  | .sindex => isSD
  | _ => fun _ _ => false

/-! ### the mini language -/
mutual
inductive Ex where
  | bad
  | var (i : Nat)
  | cst (d : D)
  | glob (x : Str) (d : D)
  | tup (as : As)
  | lst (as : As)
  | newl
  | newd
  | bin (o : Op) (a b : Ex)
  | cmp (o : Op) (a b : Ex)
  | and (a b : Ex) | or (a b : Ex) | not (a : Ex) | neg (a : Ex)
  | ite (c : Ts) (a b : Ex)
  | idx (a b : Ex)
  | sl (a : Ex) (lo hi : Pa)
  | gdict (x : Str) (kvs : List (List Nat × List Nat)) (k : Ex)
  | gtix (x : Str) (xs : List (List Nat)) (k : Ex)
  | call (f : Nat) (as : As)
  | meth (C f : Nat) (o : Ex) (as : As)
  | make (C f : Nat) (as : As)
  | fld (C : Nat) (o : Ex) (f : Nat)
  | blt (o : Op) (as : As)
  | bm (o : Op) (a : Ex) (as : As)
  | dget (o k d : Ex)
  | comp (src : Sr) (tg : Tg) (ts : Tq) (elt : Ex) (own : List Nat)
inductive As where
  | nil | cons (e : Ex) (r : As)
inductive Pa where
  | none | some (e : Ex)
inductive Ts where
  | and (a b : Ts) | or (a b : Ts) | not (a : Ts) | val (e : Ex) | cmp (o : Op) (a b : Ex)
inductive Tq where
  | none | some (t : Ts)
inductive Tg where
  | name (i : Nat) | tup (is : List Nat)
inductive Sr where
  | seq (e : Ex) | range1 (e : Ex) | range2 (e f : Ex) | enum (e : Ex) | zip (e f : Ex)
end
mutual
inductive Sm where
  | bad
  | ex (e : Ex)
  | ret (e : Ex)
  | retN
  | set (i : Nat) (e : Ex)
  | unp (is : List Nat) (e : Ex)
  | par (is : List Nat) (as : As)
  | fld (C : Nat) (o : Ex) (f : Nat) (e : Ex)
  | dput (o k e : Ex)
  | aug (o : Op) (i : Nat) (e : Ex)
  | ite (c : Ts) (a b : Ss)
  | for (src : Sr) (tg : Tg) (b : Ss)
  | while (c : Ts) (b : Ss)
  | brk | cont | doc
inductive Ss where
  | nil | cons (s : Sm) (r : Ss)
end

/-! ### the evaluator -/
abbrev Calls := Nat → List D → Sto → Res D
def setAll : List Nat → List D → Nv → Option Nv
  | [], [], σ => some σ
  | i :: is, d :: ds, σ => setAll is ds (σ.set i (some d))
  | _, _, _ => none
def setTg : Tg → D → Nv → Option Nv
  | .name i, d, σ => some (σ.set i (some d))
  | .tup is, .tup ds, σ => setAll is ds σ
  | _, _, _ => none
def wipeN (σ : Nv) : List Nat → Nv
  | [] => σ
  | v :: vs => (wipeN σ vs).set v none
def compD (f : D → Sto → Res (Option D)) : List D → Sto → Res (List D)
  | [], S => .ok [] S
  | d :: r, S => (f d S).bind fun o S => (compD f r S).bind fun xs S => .ok (o.toList ++ xs) S
def rangeD (lo : Int) : Nat → List D
  | 0 => []
  | n + 1 => .int lo :: rangeD (lo + 1) n
def smallI (i : Int) : Bool := decide (-4611686018427387904 ≤ i) && decide (i < 4611686018427387904)
def seqD : D → Option (List D)
  | .tup xs => some xs
  | .lst xs => some xs
  | .str x => some (x.map fun c => .str [c])
  | _ => none
def enumD (k : Nat) : List D → List D
  | [] => []
  | d :: r => .tup [.int k, d] :: enumD (k + 1) r
def zipD : List D → List D → List D
  | x :: xs, y :: ys => .tup [x, y] :: zipD xs ys
  | _, _ => []
mutual
def evE (c : Calls) : Ex → Nv → Sto → Res D
  | .bad, _, _ => .bad
  | .var i, σ, S => match σ[i]? with | some (some d) => .ok d S | _ => .bad
  | .cst d, _, S => .ok d S
  | .glob _ d, _, S => .ok d S
  | .tup as, σ, S => (evA c as σ S).bind fun ds S => okV (decide (ds.length ≤ sizeL)) (.tup ds) S
  | .lst as, σ, S => (evA c as σ S).bind fun ds S => okV (decide (ds.length ≤ sizeL)) (.lst ds) S
  | .newl, _, S => .ok (.obj S.length) (S ++ [.lst []])
  | .newd, _, S => .ok (.obj S.length) (S ++ [.dct []])
  | .bin o a b, σ, S => (evE c a σ S).bind fun x S => (evE c b σ S).bind fun y S => binD o x y S
  | .cmp o a b, σ, S => (evE c a σ S).bind fun x S => (evE c b σ S).bind fun y S => cmpD o x y S
  | .and a b, σ, S => (evE c a σ S).bind fun x S => match x with | .bl true => evE c b σ S | .bl false => .ok (.bl false) S | _ => .bad
  | .or a b, σ, S => (evE c a σ S).bind fun x S => match x with | .bl false => evE c b σ S | .bl true => .ok (.bl true) S | _ => .bad
  | .not a, σ, S => (evE c a σ S).bind fun x S => match x with | .bl k => .ok (.bl (!k)) S | _ => .bad
  | .neg a, σ, S => (evE c a σ S).bind fun x S => match x with | .int i => .ok (.int (-i)) S | _ => .bad
  | .ite t a b, σ, S => (evT c t σ S).bind fun k S => if k then evE c a σ S else evE c b σ S
  | .idx a b, σ, S => (evE c a σ S).bind fun x S => (evE c b σ S).bind fun y S => idxD x y S
  | .sl a lo hi, σ, S => (evE c a σ S).bind fun x S => (evP c lo σ S).bind fun l S => (evP c hi σ S).bind fun h S => slD x l h S
  | .gdict _ kvs k, σ, S => (evE c k σ S).bind fun y S => match y with
    | .str x => (match kvs.lookup x with | some z => .ok (.str z) S | none => .bad)
    | _ => .bad
  | .gtix _ xs k, σ, S => (evE c k σ S).bind fun y S => match y with
    | .str x => (match firstIx (fun y => decide (y = x)) xs with | some j => .ok (.int j) S | none => .bad)
    | _ => .bad
  | .call f as, σ, S => (evA c as σ S).bind fun ds S => c f ds S
  | .meth C f o as, σ, S => (evE c o σ S).bind fun x S => match x with
    | .obj n => (match S[n]? with | some (.ins C' _) => if C' = C then (evA c as σ S).bind fun ds S => c f (.obj n :: ds) S else .bad | _ => .bad)
    | _ => .bad
  | .make C f as, σ, S => (evA c as σ S).bind fun ds S => (c f (.obj S.length :: ds) (S ++ [.ins C []])).bind fun r S' => okV (isNon r) (.obj S.length) S'
  | .fld C o f, σ, S => (evE c o σ S).bind fun x S => match x with
    | .obj n => (match S[n]? with | some (.ins C' fs) => if C' = C then (match fs.lookup f with | some d => .ok d S | none => .bad) else .bad | _ => .bad)
    | _ => .bad
  | .blt o as, σ, S => (evA c as σ S).bind fun ds S => bltD o ds S
  | .bm o a as, σ, S => (evE c a σ S).bind fun x S => if bmPre o x S then (evA c as σ S).bind fun ds S => bmD o x ds S else .bad
  | .dget o k d, σ, S => (evE c o σ S).bind fun x S => if isDO x S then (evE c k σ S).bind fun y S => (evE c d σ S).bind fun z S => mGet x [y, z] S else .bad
  | .comp src tg ts elt own, σ, S => (evSr c src σ S).bind fun ds S =>
      (compD (fun d S => match setTg tg d (wipeN σ own) with
        | none => .bad
        | some σ' => (evTq c ts σ' S).bind fun k S => if k then (evE c elt σ' S).bind fun v S => .ok (some v) S else .ok none S) ds S).bind fun xs S => okV (decide (xs.length ≤ sizeL)) (.lst xs) S
def evA (c : Calls) : As → Nv → Sto → Res (List D)
  | .nil, _, S => .ok [] S
  | .cons e r, σ, S => (evE c e σ S).bind fun d S => (evA c r σ S).bind fun ds S => .ok (d :: ds) S
def evP (c : Calls) : Pa → Nv → Sto → Res (Option Int)
  | .none, _, S => .ok none S
  | .some e, σ, S => (evE c e σ S).bind fun d S => match d with | .int i => .ok (some i) S | _ => .bad
def evT (c : Calls) : Ts → Nv → Sto → Res Bool
  | .and a b, σ, S => (evT c a σ S).bind fun k S => if k then evT c b σ S else .ok false S
  | .or a b, σ, S => (evT c a σ S).bind fun k S => if k then .ok true S else evT c b σ S
  | .not a, σ, S => (evT c a σ S).bind fun k S => .ok (!k) S
  | .val e, σ, S => (evE c e σ S).bind fun d S => match truD d S with | some k => .ok k S | none => .bad
  | .cmp o a b, σ, S => (evE c a σ S).bind fun x S => (evE c b σ S).bind fun y S => (cmpD o x y S).bind fun d S => match d with | .bl k => .ok k S | _ => .bad
def evTq (c : Calls) : Tq → Nv → Sto → Res Bool
  | .none, _, S => .ok true S
  | .some t, σ, S => evT c t σ S
def evSr (c : Calls) : Sr → Nv → Sto → Res (List D)
  | .seq e, σ, S => (evE c e σ S).bind fun d S => match seqD d with | some ds => .ok ds S | none => .bad
  | .range1 e, σ, S => (evE c e σ S).bind fun d S => match d with | .int j => okV (smallI j) (rangeD 0 j.toNat) S | _ => .bad
  | .range2 e f, σ, S => (evE c e σ S).bind fun d S => (evE c f σ S).bind fun g S => match d, g with | .int i, .int j => okV (smallI i && smallI j) (rangeD i (j - i).toNat) S | _, _ => .bad
  | .enum e, σ, S => (evE c e σ S).bind fun d S => match d with | .lst ds => .ok (enumD 0 ds) S | _ => .bad
  | .zip e f, σ, S => (evE c e σ S).bind fun d S => (evE c f σ S).bind fun g S => match d, g with | .lst ds, .lst gs => .ok (zipD ds gs) S | _, _ => .bad
end
inductive Fl where
  | nx | brk | cont | ret (d : D)
def forD (body : Nv → Sto → Res (Fl × Nv)) (tg : Tg) : List D → Nv → Sto → Res (Fl × Nv)
  | [], σ, S => .ok (.nx, σ) S
  | d :: r, σ, S => match setTg tg d σ with
    | none => .bad
    | some σ' => (body σ' S).bind fun q S => match q.1 with
      | .nx => forD body tg r q.2 S
      | .cont => forD body tg r q.2 S
      | .brk => .ok (.nx, q.2) S
      | .ret v => .ok (.ret v, q.2) S
def whileD (test : Nv → Sto → Res Bool) (body : Nv → Sto → Res (Fl × Nv)) : Nat → Nv → Sto → Res (Fl × Nv)
  | 0, _, _ => .bad
  | n + 1, σ, S => (test σ S).bind fun k S => if k then (body σ S).bind fun q S => match q.1 with
      | .nx => whileD test body n q.2 S
      | .cont => whileD test body n q.2 S
      | .brk => .ok (.nx, q.2) S
      | .ret v => .ok (.ret v, q.2) S
    else .ok (.nx, σ) S
mutual
def evS (c : Calls) : Sm → Nv → Sto → Res (Fl × Nv)
  | .bad, _, _ => .bad
  | .ex e, σ, S => (evE c e σ S).bind fun _ S => .ok (.nx, σ) S
  | .ret e, σ, S => (evE c e σ S).bind fun d S => .ok (.ret d, σ) S
  | .retN, σ, S => .ok (.ret .non, σ) S
  | .set i e, σ, S => (evE c e σ S).bind fun d S => .ok (.nx, σ.set i (some d)) S
  | .unp is e, σ, S => (evE c e σ S).bind fun d S => match setTg (.tup is) d σ with | some σ' => .ok (.nx, σ') S | none => .bad
  | .par is as, σ, S => (evA c as σ S).bind fun ds S => match setAll is.reverse ds.reverse σ with | some σ' => .ok (.nx, σ') S | none => .bad
  | .fld C o f e, σ, S => (evE c e σ S).bind fun d S => (evE c o σ S).bind fun x S => match x with
    | .obj n => (match S[n]? with | some (.ins C' fs) => if C' = C then okV (decide (fs.length < 1000)) (.nx, σ) (S.set n (.ins C (putFD f d fs))) else .bad | _ => .bad)
    | _ => .bad
  | .dput o k e, σ, S => (evE c e σ S).bind fun d S => (evE c o σ S).bind fun x S => (evE c k σ S).bind fun y S => match x, y with
    | .obj n, .tup ks => (match S[n]?, keysI ks with | some (.dct kvs), some ks => okV (decide (kvs.length < sizeL)) (.nx, σ) (S.set n (.dct (putD kvs ks d))) | _, _ => .bad)
    | _, _ => .bad
  | .aug o i e, σ, S => match σ[i]? with
    | some (some x) => (evE c e σ S).bind fun y S => match o, x, y with
      | .add, .int a, .int b => .ok (.nx, σ.set i (some (.int (a + b)))) S
      | _, _, _ => .bad
    | _ => .bad
  | .ite t a b, σ, S => (evT c t σ S).bind fun k S => if k then evSs c a σ S else evSs c b σ S
  | .for src tg b, σ, S => (evSr c src σ S).bind fun ds S => forD (fun σ S => evSs c b σ S) tg ds σ S
  | .while t b, σ, S => whileD (fun σ S => evT c t σ S) (fun σ S => evSs c b σ S) 1000 σ S
  | .brk, σ, S => .ok (.brk, σ) S
  | .cont, σ, S => .ok (.cont, σ) S
  | .doc, σ, S => .ok (.nx, σ) S
def evSs (c : Calls) : Ss → Nv → Sto → Res (Fl × Nv)
  | .nil, σ, S => .ok (.nx, σ) S
  | .cons s r, σ, S => (evS c s σ S).bind fun q S => match q.1 with
    | .nx => evSs c r q.2 S
    | _ => .ok q S
end
/-! ### defs -/
mutual
def pureD : D → Bool
  | .tup xs => pureDs xs
  | .lst xs => pureDs xs
  | .obj _ => false
  | _ => true
def pureDs : List D → Bool
  | [] => true
  | x :: xs => pureD x && pureDs xs
end
mutual
def sameD : D → D → Bool
  | .non, .non => true
  | .bl a, .bl b => a == b
  | .int i, .int j => i == j
  | .str x, .str y => x == y
  | .tup x, .tup y => sameDs x y
  | .lst x, .lst y => sameDs x y
  | .obj m, .obj n => m == n
  | _, _ => false
def sameDs : List D → List D → Bool
  | [], [] => true
  | x :: xs, y :: ys => sameD x y && sameDs xs ys
  | _, _ => false
end
def sameP {κ : Type} [DecidableEq κ] : List (κ × D) → List (κ × D) → Bool
  | [], [] => true
  | x :: xs, y :: ys => decide (x.1 = y.1) && sameD x.2 y.2 && sameP xs ys
  | _, _ => false
def sameO : AO → AO → Bool
  | .lst x, .lst y => sameDs x y
  | .dct x, .dct y => sameP x y
  | .ins C x, .ins C' y => decide (C = C') && sameP x y
  | _, _ => false
/-- the first objects of T are those of S -/
def sameS : Sto → Sto → Bool
  | [], _ => true
  | x :: xs, y :: ys => sameO x y && sameS xs ys
  | _ :: _, [] => false
structure Fn where
  np : Nat
  ns : Nat
  clean : Bool
  body : Ss
def endD (clean : Bool) (S : Sto) (v : D) (S' : Sto) : Res D := if clean then (if pureD v && sameS S S' then .ok v S else .bad) else .ok v S'
def callN (fns : List Fn) : Nat → Calls
  | 0 => fun _ _ _ => .bad
  | n + 1 => fun f ds S => match fns[f]? with
    | none => .bad
    | some fn => if ds.length = fn.np then (evSs (callN fns n) fn.body (ds.map some ++ List.replicate (fn.ns - fn.np) none) S).bind fun q S' => match q.1 with
        | .nx => endD fn.clean S .non S'
        | .ret d => endD fn.clean S d S'
        | _ => .bad
      else .bad
end Ev

namespace Ev
open PySem PySem.Spec L2

/-! ### what stands for a value -/
/-- the addresses of the classes, the names of the attributes -/
structure Ad where
  cl : Nat → Addr
  attrs : List Str
/-- where the objects are, in the store's order; addresses that are written though they are no objects (a list that is being made) -/
structure Lc where
  o : List Addr
  p : List Addr
def Lc.no (ρ : Lc) (a : Addr) : Prop := a ∉ ρ.o ∧ a ∉ ρ.p
/-- a tuple's object: tracked, or one of the top's own, of texts -/
def TupN (K : PySem.W.Frag) (H : Hp) (ρ : Lc) (a : Addr) (vs : List V) : Prop := (H a = some (.tup vs) ∧ ρ.no a) ∨ (SqT K (fun _ => none) a vs ∧ vs ≠ [] ∧ ∀ v ∈ vs, ∃ x, v = V.str x)
mutual
def RepD (K : PySem.W.Frag) (H : Hp) (ρ : Lc) : D → V → Prop
  | .non, v => v = .non
  | .bl b, v => v = .bl b
  | .int i, v => v = .int i
  | .str x, v => v = .str ⟨x.toArray⟩
  | .tup xs, v => ∃ a vs, v = .ref a ∧ SqT K H a vs ∧ TupN K H ρ a vs ∧ RepDs K H ρ xs vs
  | .lst xs, v => ∃ a vs, v = .ref a ∧ SqL K H a vs ∧ (ρ.no a ∨ SqL K (fun _ => none) a vs) ∧ RepDs K H ρ xs vs
  | .obj n, v => ∃ a, v = .ref a ∧ ρ.o[n]? = some a
def RepDs (K : PySem.W.Frag) (H : Hp) (ρ : Lc) : List D → List V → Prop
  | [], vs => vs = []
  | d :: ds, vs => ∃ v r, vs = v :: r ∧ RepD K H ρ d v ∧ RepDs K H ρ ds r
end
structure Ext (H : Hp) (ρ : Lc) (H' : Hp) (ρ' : Lc) : Prop where
  pre : ∃ new, ρ'.o = ρ.o ++ new ∧ ∀ a ∈ new, H a = none
  pin : ∃ q, ρ'.p = q ++ ρ.p ∧ ∀ a ∈ q, H a = none
  keep : ∀ a o, H a = some o → a ∉ ρ.o → H' a = some o
  there : ∀ a o, H a = some o → ∃ o', H' a = some o'
section
variable {K : PySem.W.Frag} {H H1 H2 H' : Hp} {ρ ρ1 ρ2 ρ' : Lc}
theorem Ext.refl : Ext H ρ H ρ := ⟨⟨[], by simp, by simp⟩, ⟨[], by simp, by simp⟩, fun _ _ h _ => h, fun _ o h => ⟨o, h⟩⟩
theorem Ext.notin (e : Ext H ρ H1 ρ1) {a : Addr} {o : HO} (h : H a = some o) (n : a ∉ ρ.o) : a ∉ ρ1.o := by
  obtain ⟨new, e1, hn⟩ := e.pre
  rw [e1]
  intro m
  rcases List.mem_append.mp m with m | m
  · exact n m
  · rw [hn a m] at h; cases h
theorem Ext.no (e : Ext H ρ H1 ρ1) {a : Addr} {o : HO} (h : H a = some o) (n : ρ.no a) : ρ1.no a := ⟨e.notin h n.1, by
  obtain ⟨q, e1, hq⟩ := e.pin
  rw [e1]
  intro m
  rcases List.mem_append.mp m with m | m
  · rw [hq a m] at h; cases h
  · exact n.2 m⟩
theorem Ext.trans (e : Ext H ρ H1 ρ1) (f : Ext H1 ρ1 H2 ρ2) : Ext H ρ H2 ρ2 where
  pre := by
    obtain ⟨n1, e1, h1⟩ := e.pre
    obtain ⟨n2, e2, h2⟩ := f.pre
    refine ⟨n1 ++ n2, by rw [e2, e1]; simp, fun a m => ?_⟩
    rcases List.mem_append.mp m with m | m
    · exact h1 a m
    · cases q : H a with
      | none => rfl
      | some o =>
        obtain ⟨o', q'⟩ := e.there a o q
        rw [h2 a m] at q'; cases q'
  pin := by
    obtain ⟨n1, e1, h1⟩ := e.pin
    obtain ⟨n2, e2, h2⟩ := f.pin
    refine ⟨n2 ++ n1, by rw [e2, e1]; simp, fun a m => ?_⟩
    rcases List.mem_append.mp m with m | m
    · cases q : H a with
      | none => rfl
      | some o =>
        obtain ⟨o', q'⟩ := e.there a o q
        rw [h2 a m] at q'; cases q'
    · exact h1 a m
  keep := fun a o h n => f.keep a o (e.keep a o h n) (e.notin h n)
  there := fun a o h => by
    obtain ⟨o', q⟩ := e.there a o h
    exact f.there a o' q
theorem Ext.same (s : Same H H') : Ext H ρ H' ρ := ⟨⟨[], by simp, by simp⟩, ⟨[], by simp, by simp⟩, fun a o h _ => s a o h, fun a o h => ⟨o, s a o h⟩⟩
theorem Ext.get (e : Ext H ρ H1 ρ1) {n : Nat} {a : Addr} (h : ρ.o[n]? = some a) : ρ1.o[n]? = some a := by
  obtain ⟨new, e1, _⟩ := e.pre
  rw [e1, List.getElem?_append_left (List.getElem?_eq_some_iff.mp h).1]
  exact h
theorem sqT_ext (e : Ext H ρ H1 ρ1) {a : Addr} {vs : List V} (n : TupN K H ρ a vs) : SqT K H1 a vs ∧ TupN K H1 ρ1 a vs := by
  rcases n with ⟨h, n⟩ | ⟨n, n2⟩
  · exact ⟨.inl (.inl (e.keep a _ h n.1)), .inl ⟨e.keep a _ h n.1, e.no h n⟩⟩
  · refine ⟨?_, .inr ⟨n, n2⟩⟩
    rcases n with (n | ⟨o, n⟩) | n
    · cases n
    · cases n
    · exact .inr n
theorem sqL_ext (e : Ext H ρ H1 ρ1) {a : Addr} {vs : List V} (h : SqL K H a vs) (n : ρ.no a ∨ SqL K (fun _ => none) a vs) : SqL K H1 a vs ∧ (ρ1.no a ∨ SqL K (fun _ => none) a vs) := by
  rcases n with n | n
  · rcases h with (h | ⟨o, h⟩) | h
    · exact ⟨.inl (.inl (e.keep a _ h n.1)), .inl (e.no h n)⟩
    · exact ⟨.inl (.inr ⟨o, e.keep a _ h n.1⟩), .inl (e.no h n)⟩
    · exact ⟨.inr h, .inr (.inr h)⟩
  · refine ⟨?_, .inr n⟩
    rcases n with (n | ⟨o, n⟩) | n
    · cases n
    · cases n
    · exact .inr n
mutual
theorem RepD.ext (e : Ext H ρ H1 ρ1) : ∀ {d : D} {v : V}, RepD K H ρ d v → RepD K H1 ρ1 d v
  | .non, _, h => h
  | .bl _, _, h => h
  | .int _, _, h => h
  | .str _, _, h => h
  | .tup xs, _, h => by
    obtain ⟨a, vs, rfl, h1, h2, h3⟩ := h
    obtain ⟨q1, q2⟩ := sqT_ext e h2
    exact ⟨a, vs, rfl, q1, q2, RepDs.ext e h3⟩
  | .lst xs, _, h => by
    obtain ⟨a, vs, rfl, h1, h2, h3⟩ := h
    obtain ⟨q1, q2⟩ := sqL_ext e h1 h2
    exact ⟨a, vs, rfl, q1, q2, RepDs.ext e h3⟩
  | .obj n, _, h => by
    obtain ⟨a, rfl, h1⟩ := h
    exact ⟨a, rfl, e.get h1⟩
theorem RepDs.ext (e : Ext H ρ H1 ρ1) : ∀ {ds : List D} {vs : List V}, RepDs K H ρ ds vs → RepDs K H1 ρ1 ds vs
  | [], _, h => h
  | d :: ds, _, h => by
    obtain ⟨v, r, rfl, h1, h2⟩ := h
    exact ⟨v, r, rfl, RepD.ext e h1, RepDs.ext e h2⟩
end
theorem RepDs.length : ∀ {ds : List D} {vs : List V}, RepDs K H ρ ds vs → vs.length = ds.length
  | [], _, h => by cases h; rfl
  | d :: ds, _, h => by
    obtain ⟨v, r, rfl, h1, h2⟩ := h
    simp [RepDs.length h2]
theorem RepDs.append : ∀ {ds es : List D} {vs us : List V}, RepDs K H ρ ds vs → RepDs K H ρ es us → RepDs K H ρ (ds ++ es) (vs ++ us)
  | [], _, _, _, h, g => by cases h; exact g
  | d :: ds, _, _, _, h, g => by
    obtain ⟨v, r, rfl, h1, h2⟩ := h
    exact ⟨v, _, rfl, h1, RepDs.append h2 g⟩
theorem RepDs.get : ∀ {ds : List D} {vs : List V} {i : Nat} {d : D}, RepDs K H ρ ds vs → ds[i]? = some d → ∃ v, vs[i]? = some v ∧ RepD K H ρ d v
  | [], _, _, _, _, e => by simp at e
  | d :: ds, _, 0, _, h, e => by
    obtain ⟨v, r, rfl, h1, h2⟩ := h
    cases e
    exact ⟨v, rfl, h1⟩
  | d :: ds, _, i + 1, _, h, e => by
    obtain ⟨v, r, rfl, h1, h2⟩ := h
    exact RepDs.get (i := i) h2 e
theorem RepDs.drop : ∀ {ds : List D} {vs : List V} (n : Nat), RepDs K H ρ ds vs → RepDs K H ρ (ds.drop n) (vs.drop n)
  | _, _, 0, h => h
  | [], _, n + 1, h => by cases h; exact rfl
  | d :: ds, _, n + 1, h => by
    obtain ⟨v, r, rfl, h1, h2⟩ := h
    exact RepDs.drop n h2
theorem RepDs.take : ∀ {ds : List D} {vs : List V} (n : Nat), RepDs K H ρ ds vs → RepDs K H ρ (ds.take n) (vs.take n)
  | _, _, 0, h => rfl
  | [], _, n + 1, h => by cases h; exact rfl
  | d :: ds, _, n + 1, h => by
    obtain ⟨v, r, rfl, h1, h2⟩ := h
    exact ⟨v, r.take n, rfl, h1, RepDs.take n h2⟩
end

/-! ### objects -/
def kyK : Ky → Key
  | .i n => .inl n
  | .s x => .inr ⟨x.toArray⟩
theorem kyK_inj {a b : Ky} (h : kyK a = kyK b) : a = b := by
  cases a <;> cases b <;> simp [kyK] at h <;> first | (subst h; rfl) | skip
theorem kyKs_inj {a b : List Ky} (h : a.map kyK = b.map kyK) : a = b := by
  induction a generalizing b with
  | nil => cases b <;> simp at h; rfl
  | cons x xs ih =>
    cases b with
    | nil => simp at h
    | cons y ys =>
      simp only [List.map_cons, List.cons.injEq] at h
      rw [kyK_inj h.1, ih h.2]
def RepK (K : PySem.W.Frag) (H : Hp) (ρ : Lc) : List (List Ky × D) → List (List Key × V) → Prop := Paired fun p q => q.1 = p.1.map kyK ∧ RepD K H ρ p.2 q.2
def RepF (A : Ad) (K : PySem.W.Frag) (H : Hp) (ρ : Lc) : List (Nat × D) → List (Str × V) → Prop := Paired fun p q => A.attrs[p.1]? = some q.1 ∧ RepD K H ρ p.2 q.2
def RepO (A : Ad) (K : PySem.W.Frag) (H : Hp) (ρ : Lc) : AO → Addr → Prop
  | .lst xs, a => ∃ vs, H a = some (.lst vs) ∧ RepDs K H ρ xs vs
  | .dct kvs, a => ∃ us, H a = some (.dT us) ∧ RepK K H ρ kvs us
  | .ins C fs, a => ∃ dx us, H a = some (.ins (A.cl C) dx us) ∧ RepF A K H ρ fs us
structure RepS (A : Ad) (K : PySem.W.Frag) (H : Hp) (ρ : Lc) (S : Sto) : Prop where
  len : ρ.o.length = S.length
  nd : ρ.o.Nodup
  at_ : ∀ {n : Nat} {o : AO} {a : Addr}, S[n]? = some o → ρ.o[n]? = some a → RepO A K H ρ o a
  pin : ∀ a ∈ ρ.p, a ∉ ρ.o ∧ ∃ o, H a = some o
structure RepE (K : PySem.W.Frag) (H : Hp) (ρ : Lc) (env : Nv) (σ : St) : Prop where
  len : env.length = σ.length
  at_ : ∀ {i : Nat} {d : D}, env[i]? = some (some d) → ∃ v, σ[i]? = some (some v) ∧ RepD K H ρ d v
structure Rs (A : Ad) (K : PySem.W.Frag) (H : Hp) (ρ : Lc) (S : Sto) (env : Nv) (σ : St) : Prop where
  rs : RepS A K H ρ S
  re : RepE K H ρ env σ
section
variable {A : Ad} {K : PySem.W.Frag} {H H1 H2 H' : Hp} {ρ ρ1 ρ2 ρ' : Lc} {S S' : Sto} {env : Nv} {σ : St}
theorem RepE.ext (r : RepE K H ρ env σ) (e : Ext H ρ H1 ρ1) : RepE K H1 ρ1 env σ := ⟨r.len, fun h => by
  obtain ⟨v, h1, h2⟩ := r.at_ h
  exact ⟨v, h1, h2.ext e⟩⟩
theorem RepE.set (r : RepE K H ρ env σ) {d : D} {v : V} (h : RepD K H ρ d v) (i : Nat) : RepE K H ρ (env.set i (some d)) (σ.set i (some v)) := ⟨by simp [r.len], fun {j e} q => by
  by_cases hij : i = j
  · subst hij
    by_cases hl : i < env.length
    · rw [List.getElem?_set_self hl] at q
      cases q
      exact ⟨v, by rw [List.getElem?_set_self (by rw [← r.len]; exact hl)], h⟩
    · rw [List.getElem?_eq_none (by simpa using hl)] at q
      cases q
  · rw [List.getElem?_set_ne hij] at q
    obtain ⟨u, h1, h2⟩ := r.at_ q
    exact ⟨u, by rw [List.getElem?_set_ne hij]; exact h1, h2⟩⟩
theorem RepE.none (r : RepE K H ρ env σ) (i : Nat) (w : Option V) : RepE K H ρ (env.set i Option.none) (σ.set i w) := ⟨by simp [r.len], fun {j e} q => by
  by_cases hij : i = j
  · subst hij
    by_cases hl : i < env.length
    · rw [List.getElem?_set_self hl] at q
      cases q
    · rw [List.getElem?_eq_none (by simpa using hl)] at q
      cases q
  · rw [List.getElem?_set_ne hij] at q
    obtain ⟨u, h1, h2⟩ := r.at_ q
    exact ⟨u, by rw [List.getElem?_set_ne hij]; exact h1, h2⟩⟩
theorem RepE.wipe (r : RepE K H ρ env σ) : ∀ vs : List Nat, RepE K H ρ (wipeN env vs) (L2.wipe σ vs)
  | [] => r
  | v :: vs => (RepE.wipe r vs).none v Option.none
theorem Paired.impR {α β : Type} {F G : α → β → Prop} {l : List α} {m : List β} (r : Paired F l m) (f : ∀ a b, F a b → G a b) : Paired G l m := L2.Paired.mapP r f
theorem RepO.mono {o : AO} {a : Addr} (h : RepO A K H ρ o a) (ha : ∀ u, H a = some u → H1 a = some u) (f : ∀ d v, RepD K H ρ d v → RepD K H1 ρ1 d v) (fs : ∀ d v, RepDs K H ρ d v → RepDs K H1 ρ1 d v) : RepO A K H1 ρ1 o a := by
  cases o with
  | lst xs =>
    obtain ⟨vs, h1, h2⟩ := h
    exact ⟨vs, ha _ h1, fs _ _ h2⟩
  | dct kvs =>
    obtain ⟨us, h1, h2⟩ := h
    exact ⟨us, ha _ h1, L2.Paired.mapP h2 fun p q z => ⟨z.1, f _ _ z.2⟩⟩
  | ins C gs =>
    obtain ⟨dx, us, h1, h2⟩ := h
    exact ⟨dx, us, ha _ h1, L2.Paired.mapP h2 fun p q z => ⟨z.1, f _ _ z.2⟩⟩
theorem RepO.tracked {o : AO} {a : Addr} (h : RepO A K H ρ o a) : ∃ u, H a = some u ∧ Mut (some u) ∧ (∀ x y, u ≠ .frz x y) := by
  cases o with
  | lst xs => obtain ⟨vs, h1, _⟩ := h; exact ⟨_, h1, trivial, fun _ _ z => by cases z⟩
  | dct kvs => obtain ⟨us, h1, _⟩ := h; exact ⟨_, h1, trivial, fun _ _ z => by cases z⟩
  | ins C gs => obtain ⟨dx, us, h1, _⟩ := h; exact ⟨_, h1, trivial, fun _ _ z => by cases z⟩
theorem RepS.tracked (r : RepS A K H ρ S) {a : Addr} (h : a ∈ ρ.o) : ∃ u, H a = some u ∧ Mut (some u) ∧ (∀ x y, u ≠ .frz x y) := by
  obtain ⟨n, hn, e⟩ := List.getElem_of_mem h
  have hn' : n < S.length := by rw [← r.len]; exact hn
  exact (r.at_ (n := n) (List.getElem?_eq_getElem hn') (by rw [List.getElem?_eq_getElem hn, e])).tracked
theorem RepS.fresh (r : RepS A K H ρ S) {a : Addr} (h : H a = none) : ρ.no a := by
  constructor
  · intro m
    obtain ⟨u, q, _⟩ := r.tracked m
    rw [h] at q; cases q
  · intro m
    obtain ⟨_, u, q⟩ := r.pin a m
    rw [h] at q; cases q
/-- all that was tracked stays, nothing is new among the objects -/
theorem RepS.same (r : RepS A K H ρ S) (s : Same H H') : RepS A K H' ρ S := ⟨r.len, r.nd, fun h1 h2 => (r.at_ h1 h2).mono (fun u q => s _ _ q) (fun _ _ q => q.ext (.same s)) fun _ _ q => q.ext (.same s), fun a m => ⟨(r.pin a m).1, by
  obtain ⟨_, u, q⟩ := r.pin a m
  exact ⟨u, s _ _ q⟩⟩⟩
theorem same_new {p : Addr} {o : HO} (h : H p = none) : Same H (upd H p o) := fun b u q => by
  rw [upd_ne (ne_of_none q h)]
  exact q
/-- a new object -/
theorem RepS.push (r : RepS A K H ρ S) (s : Same H H') {p : Addr} (hp : H p = none) {o : AO} (ho : RepO A K H' ⟨ρ.o ++ [p], ρ.p⟩ o p) : RepS A K H' ⟨ρ.o ++ [p], ρ.p⟩ (S ++ [o]) ∧ Ext H ρ H' ⟨ρ.o ++ [p], ρ.p⟩ := by
  have e : Ext H ρ H' ⟨ρ.o ++ [p], ρ.p⟩ := ⟨⟨[p], rfl, fun a m => by rw [List.mem_singleton.mp m]; exact hp⟩, ⟨[], by simp, by simp⟩, fun a u q _ => s a u q, fun a u q => ⟨u, s a u q⟩⟩
  refine ⟨⟨by simp [r.len], ?_, fun {n u a} h1 h2 => ?_, fun a m => ?_⟩, e⟩
  · exact nd_snoc r.nd (r.fresh hp).1
  · by_cases hn : n < S.length
    · rw [List.getElem?_append_left hn] at h1
      have h2 : (ρ.o ++ [p])[n]? = some a := h2
      rw [List.getElem?_append_left (by rw [r.len]; exact hn)] at h2
      exact (r.at_ h1 h2).mono (fun u q => s _ _ q) (fun _ _ q => q.ext e) fun _ _ q => q.ext e
    · rw [List.getElem?_append_right (by omega)] at h1
      have h2 : (ρ.o ++ [p])[n]? = some a := h2
      rw [List.getElem?_append_right (by rw [r.len]; omega)] at h2
      rw [r.len] at h2
      cases hk : n - S.length with
      | zero =>
        rw [hk] at h1 h2
        cases h1
        cases h2
        exact ho
      | succ k =>
        rw [hk] at h1
        simp at h1
  · obtain ⟨h1, u, q⟩ := r.pin a m
    refine ⟨fun z => ?_, u, s _ _ q⟩
    rcases List.mem_append.mp z with z | z
    · exact h1 z
    · rw [List.mem_singleton.mp z, hp] at q; cases q
/-- an object is changed -/
theorem RepS.write (r : RepS A K H ρ S) {n : Nat} {a : Addr} (ha : ρ.o[n]? = some a) {u : HO} {o : AO} (ho : (∀ d v, RepD K H ρ d v → RepD K (upd H a u) ρ d v) → (∀ d v, RepDs K H ρ d v → RepDs K (upd H a u) ρ d v) → RepO A K (upd H a u) ρ o a) : RepS A K (upd H a u) ρ (S.set n o) ∧ Ext H ρ (upd H a u) ρ := by
  have hm : a ∈ ρ.o := List.mem_of_getElem? ha
  have e : Ext H ρ (upd H a u) ρ := ⟨⟨[], by simp, by simp⟩, ⟨[], by simp, by simp⟩, fun b v q nb => by rw [upd_ne (by rintro rfl; exact nb hm)]; exact q, fun b v q => by
    by_cases hb : b = a
    · subst hb; exact ⟨u, upd_same⟩
    · exact ⟨v, by rw [upd_ne hb]; exact q⟩⟩
  refine ⟨⟨by simp [r.len], r.nd, fun {m w b} h1 h2 => ?_, fun b m => ⟨(r.pin b m).1, ?_⟩⟩, e⟩
  · by_cases hmn : n = m
    · subst hmn
      rw [ha] at h2
      cases h2
      rw [List.getElem?_set_self (by rw [← r.len]; exact (List.getElem?_eq_some_iff.mp ha).1)] at h1
      cases h1
      exact ho (fun _ _ q => q.ext e) fun _ _ q => q.ext e
    · rw [List.getElem?_set_ne hmn] at h1
      have nb : b ≠ a := fun z => hmn (nd_ix r.nd ha (z ▸ h2))
      exact (r.at_ h1 h2).mono (fun u q => by rw [upd_ne nb]; exact q) (fun _ _ q => q.ext e) fun _ _ q => q.ext e
  · obtain ⟨_, w, q⟩ := r.pin b m
    exact e.there _ _ q
theorem Rs.ext (r : Rs A K H ρ S env σ) (e : Ext H ρ H1 ρ1) (s : RepS A K H1 ρ1 S') : Rs A K H1 ρ1 S' env σ := ⟨s, r.re.ext e⟩
/-- a new tuple, a new list that is never written -/
theorem RepS.newT (r : RepS A K H ρ S) {ds : List D} {vs : List V} (h : RepDs K H ρ ds vs) {p : Addr} (hp : H p = none) : RepS A K (upd H p (.tup vs)) ρ S ∧ Ext H ρ (upd H p (.tup vs)) ρ ∧ RepD K (upd H p (.tup vs)) ρ (.tup ds) (.ref p) :=
  ⟨r.same (same_new hp), .same (same_new hp), p, vs, rfl, SqT.of upd_same, .inl ⟨upd_same, r.fresh hp⟩, h.ext (.same (same_new hp))⟩
theorem RepS.newL (r : RepS A K H ρ S) {ds : List D} {vs : List V} (h : RepDs K H ρ ds vs) {p : Addr} (hp : H p = none) : RepS A K (upd H p (.lst vs)) ρ S ∧ Ext H ρ (upd H p (.lst vs)) ρ ∧ RepD K (upd H p (.lst vs)) ρ (.lst ds) (.ref p) :=
  ⟨r.same (same_new hp), .same (same_new hp), p, vs, rfl, SqL.of upd_same, .inl (r.fresh hp), h.ext (.same (same_new hp))⟩
end

/-! ### a list that is being made -/
section
variable {A : Ad} {K : PySem.W.Frag} {H H1 H2 H' : Hp} {ρ ρ1 ρ2 ρ' : Lc} {S S' : Sto}
mutual
/-- fewer addresses are barred -/
theorem RepD.less (eo : ρ1.o = ρ.o) (h : ∀ a, ρ.no a → ρ1.no a) : ∀ {d : D} {v : V}, RepD K H ρ d v → RepD K H ρ1 d v
  | .non, _, q => q
  | .bl _, _, q => q
  | .int _, _, q => q
  | .str _, _, q => q
  | .tup xs, _, q => by
    obtain ⟨a, vs, rfl, h1, h2, h3⟩ := q
    exact ⟨a, vs, rfl, h1, h2.elim (fun z => .inl ⟨z.1, h a z.2⟩) .inr, RepDs.less eo h h3⟩
  | .lst xs, _, q => by
    obtain ⟨a, vs, rfl, h1, h2, h3⟩ := q
    exact ⟨a, vs, rfl, h1, h2.elim (fun z => .inl (h a z)) .inr, RepDs.less eo h h3⟩
  | .obj n, _, q => by
    obtain ⟨a, rfl, h1⟩ := q
    exact ⟨a, rfl, by rw [eo]; exact h1⟩
theorem RepDs.less (eo : ρ1.o = ρ.o) (h : ∀ a, ρ.no a → ρ1.no a) : ∀ {ds : List D} {vs : List V}, RepDs K H ρ ds vs → RepDs K H ρ1 ds vs
  | [], _, q => q
  | d :: ds, _, q => by
    obtain ⟨v, r, rfl, h1, h2⟩ := q
    exact ⟨v, r, rfl, RepD.less eo h h1, RepDs.less eo h h2⟩
end
theorem RepS.less (r : RepS A K H ρ S) {p : List Addr} (h : ∀ a ∈ p, a ∈ ρ.p) : RepS A K H ⟨ρ.o, p⟩ S :=
  have hn : ∀ a, ρ.no a → (⟨ρ.o, p⟩ : Lc).no a := fun a z => ⟨z.1, fun m => z.2 (h a m)⟩
  ⟨r.len, r.nd, fun h1 h2 => (r.at_ h1 h2).mono (fun _ q => q) (fun _ _ q => RepD.less (ρ := ρ) (ρ1 := ⟨ρ.o, p⟩) rfl hn q) fun _ _ q => RepDs.less (ρ := ρ) (ρ1 := ⟨ρ.o, p⟩) rfl hn q, fun a m => r.pin a (h a m)⟩
mutual
/-- a barred address is written -/
theorem RepD.updP {p : Addr} {u : HO} (hp : p ∈ ρ.p) : ∀ {d : D} {v : V}, RepD K H ρ d v → RepD K (upd H p u) ρ d v
  | .non, _, q => q
  | .bl _, _, q => q
  | .int _, _, q => q
  | .str _, _, q => q
  | .tup xs, _, q => by
    obtain ⟨a, vs, rfl, h1, h2, h3⟩ := q
    rcases h2 with ⟨h2, n⟩ | h2
    · have e : upd H p u a = some (.tup vs) := by rw [upd_ne (fun (z : a = p) => n.2 (z ▸ hp))]; exact h2
      exact ⟨a, vs, rfl, SqT.of e, .inl ⟨e, n⟩, RepDs.updP hp h3⟩
    · refine ⟨a, vs, rfl, ?_, .inr h2, RepDs.updP hp h3⟩
      rcases h2.1 with (z | ⟨o, z⟩) | z
      · cases z
      · cases z
      · exact .inr z
  | .lst xs, _, q => by
    obtain ⟨a, vs, rfl, h1, h2, h3⟩ := q
    refine ⟨a, vs, rfl, ?_, h2, RepDs.updP hp h3⟩
    rcases h2 with n | h2
    · have ne : a ≠ p := fun z => n.2 (z ▸ hp)
      rcases h1 with (z | ⟨o, z⟩) | z
      · exact .inl (.inl (by rw [upd_ne ne]; exact z))
      · exact .inl (.inr ⟨o, by rw [upd_ne ne]; exact z⟩)
      · exact .inr z
    · rcases h2 with (z | ⟨o, z⟩) | z
      · cases z
      · cases z
      · exact .inr z
  | .obj n, _, q => q
theorem RepDs.updP {p : Addr} {u : HO} (hp : p ∈ ρ.p) : ∀ {ds : List D} {vs : List V}, RepDs K H ρ ds vs → RepDs K (upd H p u) ρ ds vs
  | [], _, q => q
  | d :: ds, _, q => by
    obtain ⟨v, r, rfl, h1, h2⟩ := q
    exact ⟨v, r, rfl, RepD.updP hp h1, RepDs.updP hp h2⟩
end
theorem RepS.updP (r : RepS A K H ρ S) {p : Addr} {u : HO} (hp : p ∈ ρ.p) : RepS A K (upd H p u) ρ S :=
  ⟨r.len, r.nd, fun h1 h2 => (r.at_ h1 h2).mono (fun _ q => by
      rw [upd_ne]
      · exact q
      · intro z
        subst z
        exact (r.pin _ hp).1 (List.mem_of_getElem? h2)) (fun _ _ q => q.updP hp) fun _ _ q => q.updP hp, fun a m => ⟨(r.pin a m).1, by
    by_cases e : a = p
    · subst e; exact ⟨u, upd_same⟩
    · rw [upd_ne e]; exact (r.pin a m).2⟩⟩
theorem Ext.updP (e : Ext H ρ H1 ρ1) {p : Addr} (hp : H p = none) {u : HO} : Ext H ρ (upd H1 p u) ρ1 :=
  ⟨e.pre, e.pin, fun a o q n => by rw [upd_ne (ne_of_none q hp)]; exact e.keep a o q n, fun a o q => by rw [upd_ne (ne_of_none q hp)]; exact e.there a o q⟩
/-- the new list is barred -/
theorem RepS.pinned (r : RepS A K H ρ S) {p : Addr} (hp : H p = none) (u : HO) : RepS A K (upd H p u) ⟨ρ.o, p :: ρ.p⟩ S ∧ Ext H ρ (upd H p u) ⟨ρ.o, p :: ρ.p⟩ := by
  have e : Ext H ρ (upd H p u) ⟨ρ.o, p :: ρ.p⟩ := ⟨⟨[], by simp, by simp⟩, ⟨[p], rfl, fun a m => by rw [List.mem_singleton.mp m]; exact hp⟩, fun a o q _ => same_new hp a o q, fun a o q => ⟨o, same_new hp a o q⟩⟩
  refine ⟨⟨r.len, r.nd, fun h1 h2 => (r.at_ h1 h2).mono (fun u q => same_new hp _ _ q) (fun _ _ q => q.ext e) fun _ _ q => q.ext e, fun a m => ?_⟩, e⟩
  rcases List.mem_cons.mp m with rfl | m
  · exact ⟨(r.fresh hp).1, u, upd_same⟩
  · obtain ⟨h1, o, h2⟩ := r.pin a m
    exact ⟨h1, o, same_new hp _ _ h2⟩
end

/-! ### readings -/
def Post (A : Ad) (K : PySem.W.Frag) (H : Hp) (ρ : Lc) (r : Res D) (Q : VK) : Prop :=
  ∃ d S', r = .ok d S' ∧ ∀ v H' ρ', Ext H ρ H' ρ' → RepS A K H' ρ' S' → RepD K H' ρ' d v → Q v H'
def tE (A : Ad) (K : PySem.W.Frag) (c : Calls) (p : Ex) : TE := fun σ H Q => ∃ ρ S env, Rs A K H ρ S env σ ∧ Post A K H ρ (evE c p env S) Q
def tA (A : Ad) (K : PySem.W.Frag) (c : Calls) (p : As) : TA := fun σ H Q => ∃ ρ S env ds S', Rs A K H ρ S env σ ∧ evA c p env S = .ok ds S' ∧ ∀ vs H' ρ', Ext H ρ H' ρ' → RepS A K H' ρ' S' → RepDs K H' ρ' ds vs → Q vs H'
def tT (A : Ad) (K : PySem.W.Frag) (c : Calls) (p : Ts) : TT := fun σ H Q => ∃ ρ S env k S', Rs A K H ρ S env σ ∧ evT c p env S = .ok k S' ∧ ∀ H' ρ', Ext H ρ H' ρ' → RepS A K H' ρ' S' → Q k H'
def tTq (A : Ad) (K : PySem.W.Frag) (c : Calls) (p : Tq) : TT := fun σ H Q => ∃ ρ S env k S', Rs A K H ρ S env σ ∧ evTq c p env S = .ok k S' ∧ ∀ H' ρ', Ext H ρ H' ρ' → RepS A K H' ρ' S' → Q k H'
def tP (A : Ad) (K : PySem.W.Frag) (c : Calls) (p : Pa) : TO := fun σ H Q => ∃ ρ S env k S', Rs A K H ρ S env σ ∧ evP c p env S = .ok k S' ∧ ∀ H' ρ', Ext H ρ H' ρ' → RepS A K H' ρ' S' → Q k H'
/-- a walk gives these, one at each turn -/
def Walks (K : PySem.W.Frag) (J : It) (H : Hp) (ρ : Lc) (ds : List D) : Prop := ∀ (H1 : Hp) (ρ1 : Lc), Ext H ρ H1 ρ1 → (∀ a, H1 a = none → ρ1.no a) →
  (∀ (i : Nat) (d : D), ds[i]? = some d → J.go i H1 ∧ ∀ x H2, J.yld i H1 x H2 → Same H1 H2 ∧ RepD K H2 ρ1 d x) ∧ ∀ i, ds.length ≤ i → J.stop i H1
def tI (A : Ad) (K : PySem.W.Frag) (c : Calls) (p : Sr) : TI := fun σ H R => ∃ ρ S env ds S', Rs A K H ρ S env σ ∧ evSr c p env S = .ok ds S' ∧ ∀ J H' ρ', Ext H ρ H' ρ' → RepS A K H' ρ' S' → Walks K J H' ρ' ds → R J H'
theorem impE {X : Cx} {e : Expr} {t u : TE} (h : PE X e t) (f : ∀ σ H Q, u σ H Q → t σ H Q) : PE X e u := fun pins s σ H Q I q => h pins s σ H Q I (f σ H Q q)
theorem impT {X : Cx} {e : Expr} {t u : TT} (h : PT X e t) (f : ∀ σ H Q, u σ H Q → t σ H Q) : PT X e u := fun pins s σ H Q I q => h pins s σ H Q I (f σ H Q q)
theorem impW {X : Cx} {e : Expr} {t u : TT} (h : PW X e t) (f : ∀ σ H Q, u σ H Q → t σ H Q) : PW X e u := fun w pins s σ H Q I q => h w pins s σ H Q I (f σ H Q q)
theorem impA {X : Cx} {e : List Expr} {t u : TA} (h : PA X e t) (f : ∀ σ H Q, u σ H Q → t σ H Q) : PA X e u := fun pos pins s σ H Q I q => h pos pins s σ H Q I (f σ H Q q)
theorem impS {X : Cx} {e : Stmt} {t u : TS} (h : PS X e t) (f : ∀ D σ H, u D σ H → t D σ H) : PS X e u := fun pins s σ H D I q => h pins s σ H D I (f D σ H q)
theorem impSs {X : Cx} {e : List Stmt} {t u : TS} (h : PSs X e t) (f : ∀ D σ H, u D σ H → t D σ H) : PSs X e u := fun pins s σ H D I q => h pins s σ H D I (f D σ H q)
theorem impI {X : Cx} {tg e : Expr} {t u : TI} (h : PI X tg e t) (f : ∀ σ H R, u σ H R → t σ H R) : PI X tg e u := fun pins s σ H R I q => h pins s σ H R I (f σ H R q)
end Ev

namespace Ev
open PySem PySem.Spec L2
open PyProof.Rows (IsTup)

section
variable {A : Ad} {K : PySem.W.Frag} {H : Hp} {ρ : Lc} {S : Sto} {Q : VK} {d : D}
theorem Post.ext {r : Res D} {H1 : Hp} {ρ1 : Lc} (h : Post A K H ρ r Q) (e : Ext H ρ H1 ρ1) : Post A K H1 ρ1 r Q := by
  obtain ⟨d, S', e1, q⟩ := h
  exact ⟨d, S', e1, fun v H' ρ' e2 rs rd => q v H' ρ' (e.trans e2) rs rd⟩
theorem Post.run (h : Post A K H ρ (.ok d S) Q) {v : V} {H' : Hp} {ρ' : Lc} (e : Ext H ρ H' ρ') (rs : RepS A K H' ρ' S) (r : RepD K H' ρ' d v) : Q v H' := by
  obtain ⟨d', S', e1, q⟩ := h
  cases e1
  exact q v H' ρ' e rs r
theorem Post.val (h : Post A K H ρ (.ok d S) Q) (rs : RepS A K H ρ S) {v : V} (r : RepD K H ρ d v) : Q v H := h.run .refl rs r
theorem Post.bad (h : Post A K H ρ .bad Q) : False := by
  obtain ⟨d', S', e1, q⟩ := h
  cases e1
theorem Post.okV {c : Bool} (h : Post A K H ρ (Ev.okV c d S) Q) : c = true ∧ Post A K H ρ (.ok d S) Q := by
  cases c with
  | true => exact ⟨rfl, h⟩
  | false => exact (Post.bad h).elim
end
theorem line_eq : sizeLine = sizeL := sizeLine_eq
theorem str_app (x y : List Nat) : (⟨x.toArray⟩ : Str) ++ ⟨y.toArray⟩ = ⟨(x ++ y).toArray⟩ := by
  show Str.append _ _ = _
  unfold Str.append
  simp
theorem str_len (x : List Nat) : (⟨x.toArray⟩ : Str).length = x.length := by simp [Str.length]
theorem str_inj {x y : List Nat} : (⟨x.toArray⟩ : Str) = ⟨y.toArray⟩ ↔ x = y := by simp

def rV2 (A : Ad) (K : PySem.W.Frag) (f : D → D → Sto → Res D) : R2 := fun x y H Q => ∃ ρ S dx dy, RepS A K H ρ S ∧ RepD K H ρ dx x ∧ RepD K H ρ dy y ∧ Post A K H ρ (f dx dy S) Q
section
variable {X : Cx} {A : Ad}
theorem cat_tup0 {prog : Program} {w : World} {A : Around} {E : Value → Shared → Prop} {s : Shared} {t b : Addr} {ws : List Value} {Q : Value → Shared → Prop} (ht : IsTup s.heap t #[]) (hb : IsTup s.heap b ws.toArray) (h1 : Q (.ref b) s) : wpAny (model prog w) A (binaryOp .Add (.ref t) (.ref b)) Q E s := by
  obtain ⟨⟨cls, dd, data, sl⟩, ho, hc, n, hd⟩ := id ht
  obtain ⟨⟨cls2, dd2, data2, sl2⟩, ho2, hc2, n2, hd2⟩ := id hb
  simp only at hc hd hc2 hd2
  subst hc hd hc2 hd2
  exact concat_meets ⟨_, ho, rfl⟩ ⟨_, ho2, rfl⟩ noFill_tuple_add seq_tuple_add PySem.F.slot_tuple_add PySem.F.entry_tuple_add (PySem.F.args_tuple_add_2 _ _)
      (PyProof.Rows.tuple_addW0 t b #[] ws.toArray n n2 dd dd2 sl sl2 rfl) ⟨ho, ho2, h1⟩
theorem op_catT0 : OpR X (binaryOp .Add) (fun x y H Q => ∃ a b ys, x = .ref a ∧ y = .ref b ∧ SqT X.K H a [] ∧ SqT X.K H b ys ∧ Q (.ref b) H) := by
  intro pins s σ H x y v u Q I rx ry h
  obtain ⟨a, b, ys, rfl, rfl, ha, hb, q⟩ := h
  cases rx
  cases ry
  obtain ⟨its, r1, p1, _⟩ := I.tuple ha
  obtain ⟨its2, r2, p2, _⟩ := I.tuple hb
  cases r1
  exact cat_tup0 p1 p2 ⟨.ref b, H, I, rfl, q⟩
theorem op_catL : OpR X (binaryOp .Add) (fun x y H Q => ∃ a b xs ys, x = .ref a ∧ y = .ref b ∧ SqL X.K H a xs ∧ SqL X.K H b ys ∧ xs.length + ys.length ≤ sizeLine ∧ ∀ p, H p = none → Q (.ref p) (upd H p (.lst (xs ++ ys)))) := by
  intro pins s σ H x y v u Q I rx ry h
  obtain ⟨a, b, xs, ys, rfl, rfl, ha, hb, hz, q⟩ := h
  cases rx
  cases ry
  obtain ⟨its, r1, p1, _⟩ := I.list ha
  obtain ⟨its2, r2, p2, _⟩ := I.list hb
  obtain ⟨⟨cls, dd, data, sl⟩, n, ho, hc, hdd, hd⟩ := p1
  obtain ⟨⟨cls2, dd2, data2, sl2⟩, n2, ho2, hc2, hdd2, hd2⟩ := p2
  simp only at hc hd hc2 hd2
  subst hc hd hc2 hd2
  have e : its.toArray ++ its2.toArray = (its ++ its2).toArray := by simp
  refine concat_meets ⟨_, ho, rfl⟩ ⟨_, ho2, rfl⟩ noFill_list_add seq_list_add PySem.F.slot_list_add PySem.F.entry_list_add (PySem.F.args_list_add_2 _ _) (PyProof.Rows.list_addW a b its.toArray its2.toArray n n2 dd dd2 sl sl2 (by rw [List.size_toArray, List.size_toArray, ← r1.length, ← r2.length]; exact hz)) ⟨ho, ho2, ?_⟩
  rw [e]
  exact ⟨.ref _, _, I.lnew (t' := s.toks) (r1.append r2) (by rw [List.length_append]; omega), rfl, q _ I.fresh⟩
theorem v_add : OpR X (binaryOp .Add) (rV2 A X.K addD) := by
  intro pins s σ H x y v u Q I rx ry h
  obtain ⟨ρ, S, dx, dy, rs, hx, hy, q⟩ := h
  cases dx <;> cases dy <;> first | exact (Post.bad q).elim | skip
  · cases hx; cases hy
    exact op_add pins s σ H _ _ v u Q I rx ry ⟨_, _, rfl, rfl, q.val rs rfl⟩
  · cases hx; cases hy
    obtain ⟨hc, q⟩ := q.okV
    refine op_add_str pins s σ H _ _ v u Q I rx ry ⟨_, _, rfl, rfl, ?_, ?_⟩
    · rw [str_len, str_len, line_eq]; exact of_decide_eq_true hc
    · rw [str_app]; exact q.val rs rfl
  · rename_i xs ys
    obtain ⟨hc, q⟩ := q.okV
    obtain ⟨a, vs, rfl, h1, h2, h3⟩ := hx
    obtain ⟨b, us, rfl, g1, g2, g3⟩ := hy
    by_cases e0 : vs = []
    · subst e0
      cases xs with
      | cons _ _ => obtain ⟨_, _, z, _⟩ := h3; cases z
      | nil => exact op_catT0 pins s σ H _ _ v u Q I rx ry ⟨a, b, us, rfl, rfl, h1, g1, q.val rs ⟨b, us, rfl, g1, g2, g3⟩⟩
    · refine op_catT pins s σ H _ _ v u Q I rx ry ⟨a, b, vs, us, rfl, rfl, h1, g1, e0, ?_, fun e1 => ?_, fun e1 p hp => ?_⟩
      · rw [h3.length, g3.length, line_eq]; exact of_decide_eq_true hc
      · subst e1
        cases ys with
        | cons _ _ => obtain ⟨_, _, z, _⟩ := g3; cases z
        | nil => exact q.val rs ⟨a, vs, rfl, h1, h2, by rw [List.append_nil]; exact h3⟩
      · obtain ⟨q1, q2, q3⟩ := rs.newT (h3.append g3) hp
        exact q.run q2 q1 q3
  · obtain ⟨hc, q⟩ := q.okV
    obtain ⟨a, vs, rfl, h1, h2, h3⟩ := hx
    obtain ⟨b, us, rfl, g1, g2, g3⟩ := hy
    refine op_catL pins s σ H _ _ v u Q I rx ry ⟨a, b, vs, us, rfl, rfl, h1, g1, ?_, fun p hp => ?_⟩
    · rw [h3.length, g3.length, line_eq]; exact of_decide_eq_true hc
    · obtain ⟨q1, q2, q3⟩ := rs.newL (h3.append g3) hp
      exact q.run q2 q1 q3
theorem v_sub : OpR X (binaryOp .Sub) (rV2 A X.K subD) := by
  intro pins s σ H x y v u Q I rx ry h
  obtain ⟨ρ, S, dx, dy, rs, hx, hy, q⟩ := h
  cases dx <;> cases dy <;> first | exact (Post.bad q).elim | skip
  cases hx; cases hy
  exact op_sub pins s σ H _ _ v u Q I rx ry ⟨_, _, rfl, rfl, q.val rs rfl⟩
theorem v_mul : OpR X (binaryOp .Mult) (rV2 A X.K mulD) := by
  intro pins s σ H x y v u Q I rx ry h
  obtain ⟨ρ, S, dx, dy, rs, hx, hy, q⟩ := h
  cases dx <;> cases dy <;> first | exact (Post.bad q).elim | skip
  cases hx; cases hy
  obtain ⟨hc, q⟩ := q.okV
  refine op_mul pins s σ H _ _ v u Q I rx ry ⟨_, _, rfl, rfl, ?_, q.val rs rfl⟩
  unfold cmulB at hc
  simp only [Bool.or_eq_true, Bool.and_eq_true, decide_eq_true_eq] at hc
  exact hc
theorem v_fdiv : OpR X (binaryOp .FloorDiv) (rV2 A X.K fdivD) := by
  intro pins s σ H x y v u Q I rx ry h
  obtain ⟨ρ, S, dx, dy, rs, hx, hy, q⟩ := h
  cases dx <;> cases dy <;> first | exact (Post.bad q).elim | skip
  cases hx; cases hy
  obtain ⟨hc, q⟩ := q.okV
  simp only [Bool.and_eq_true, decide_eq_true_eq] at hc
  exact op_fdiv pins s σ H _ _ v u Q I rx ry ⟨_, _, rfl, rfl, hc, q.val rs rfl⟩
theorem v_mod : OpR X (binaryOp .Mod) (rV2 A X.K modD) := by
  intro pins s σ H x y v u Q I rx ry h
  obtain ⟨ρ, S, dx, dy, rs, hx, hy, q⟩ := h
  cases dx <;> cases dy <;> first | exact (Post.bad q).elim | skip
  cases hx; cases hy
  obtain ⟨hc, q⟩ := q.okV
  simp only [decide_eq_true_eq] at hc
  exact op_mod pins s σ H _ _ v u Q I rx ry ⟨_, _, rfl, rfl, hc, q.val rs rfl⟩
/-! ### comparisons -/
theorem v_cmpI {op : CmpOp} {p : Int → Int → Bool} (ho : OpR X (compareOp op) (rI0 fun i j => .bl (p i j))) : OpR X (compareOp op) (rV2 A X.K (cmpI p)) := by
  intro pins s σ H x y v u Q I rx ry h
  obtain ⟨ρ, S, dx, dy, rs, hx, hy, q⟩ := h
  cases dx <;> cases dy <;> first | exact (Post.bad q).elim | skip
  cases hx; cases hy
  exact ho pins s σ H _ _ v u Q I rx ry ⟨_, _, rfl, rfl, q.val rs rfl⟩
end
section
variable {A : Ad} {K : PySem.W.Frag} {H : Hp} {ρ : Lc}
mutual
theorem okD_dp : ∀ {n : Nat} {d : D} {v : V}, okD n d = true → RepD K H ρ d v → ∃ p, toPD d = some p ∧ Dp K H v p ∧ p.canLay0 = true ∧ p.depth ≤ n
  | _, .non, _, _, h => by cases h; exact ⟨_, rfl, .non, rfl, Nat.zero_le _⟩
  | _, .bl b, _, _, h => by cases h; exact ⟨_, rfl, .bl b, rfl, Nat.zero_le _⟩
  | _, .int b, _, _, h => by cases h; exact ⟨_, rfl, .int b, rfl, Nat.zero_le _⟩
  | n, .str x, _, o, h => by
    cases h
    refine ⟨_, rfl, .str _, ?_, Nat.zero_le _⟩
    have o' : (x.all fun c => decide (c < 0x110000)) = true := by cases n <;> exact o
    show PyData.strOk _ = true
    unfold PyData.strOk
    simpa using o'
  | n + 1, .tup xs, _, o, h => by
    obtain ⟨a, vs, rfl, h1, h2, h3⟩ := h
    obtain ⟨ps, e1, e2, e3, e4⟩ := okDs_dp (n := n) o h3
    exact ⟨.tuple ps, by simp [toPD, e1], .tup h1 e2, e3, Nat.succ_le_succ e4⟩
  | n + 1, .lst xs, _, o, h => by
    obtain ⟨a, vs, rfl, h1, h2, h3⟩ := h
    obtain ⟨ps, e1, e2, e3, e4⟩ := okDs_dp (n := n) o h3
    exact ⟨.list ps, by simp [toPD, e1], .lst h1 e2, e3, Nat.succ_le_succ e4⟩
  | 0, .tup xs, _, o, _ => by cases o
  | 0, .lst xs, _, o, _ => by cases o
  | 0, .obj n, _, o, _ => by cases o
  | _ + 1, .obj n, _, o, _ => by cases o
theorem okDs_dp : ∀ {n : Nat} {ds : List D} {vs : List V}, okDs n ds = true → RepDs K H ρ ds vs → ∃ ps, toPDs ds = some ps ∧ DpAll K H vs ps ∧ PyData.canLayAll0 ps = true ∧ PyData.depthAll ps ≤ n
  | _, [], _, _, h => by cases h; exact ⟨[], rfl, .nil, rfl, Nat.zero_le _⟩
  | n, d :: ds, _, o, h => by
    obtain ⟨v, r, rfl, h1, h2⟩ := h
    have o' : (okD n d && okDs n ds) = true := o
    rw [Bool.and_eq_true] at o'
    obtain ⟨p, e1, e2, e3, e4⟩ := okD_dp o'.1 h1
    obtain ⟨ps, f1, f2, f3, f4⟩ := okDs_dp o'.2 h2
    exact ⟨p :: ps, by simp [toPDs, e1, f1], .cons e2 f2, by simp [PyData.canLayAll0, e3, f3], by simp only [PyData.depthAll]; omega⟩
end
mutual
theorem eqD_eqv : ∀ {a b : D} {p q : PyData}, toPD a = some p → toPD b = some q → eqD a b = PyData.eqv p q
  | a, b, p, q, ha, hb => by
    cases a <;> cases b <;> simp only [toPD, Option.some.injEq, Option.map_eq_some_iff, reduceCtorEq, false_and, exists_false] at ha hb <;>
      first
      | (subst ha; subst hb; simp only [eqD, PyData.eqv]; rw [Bool.eq_iff_iff]; simp; done)
      | (subst ha; subst hb; simp [eqD, PyData.eqv]; done)
      | (obtain ⟨ps, e1, rfl⟩ := ha; obtain ⟨qs, e2, rfl⟩ := hb; simp [eqD, PyData.eqv]; done)
      | (obtain ⟨ps, e1, rfl⟩ := ha; obtain ⟨qs, e2, rfl⟩ := hb; simp only [eqD, PyData.eqv]; first | exact eqDs_eqv e1 e2 | rfl)
      | (obtain ⟨ps, e1, rfl⟩ := ha; subst hb; simp [eqD, PyData.eqv]; done)
      | (obtain ⟨qs, e2, rfl⟩ := hb; subst ha; simp [eqD, PyData.eqv]; done)
      | skip
theorem eqDs_eqv : ∀ {a b : List D} {p q : List PyData}, toPDs a = some p → toPDs b = some q → eqDs a b = PyData.eqvAll p q
  | [], [], _, _, ha, hb => by cases ha; cases hb; rfl
  | [], b :: bs, _, _, ha, hb => by
    cases ha
    simp only [toPDs, Option.bind_eq_some_iff, Option.map_eq_some_iff] at hb
    obtain ⟨y, _, ys, _, rfl⟩ := hb
    rfl
  | a :: as, [], _, _, ha, hb => by
    cases hb
    simp only [toPDs, Option.bind_eq_some_iff, Option.map_eq_some_iff] at ha
    obtain ⟨y, _, ys, _, rfl⟩ := ha
    rfl
  | a :: as, b :: bs, _, _, ha, hb => by
    simp only [toPDs, Option.bind_eq_some_iff, Option.map_eq_some_iff] at ha hb
    obtain ⟨y, h1, ys, h2, rfl⟩ := ha
    obtain ⟨z, g1, zs, g2, rfl⟩ := hb
    simp only [eqDs, PyData.eqvAll]
    rw [eqD_eqv h1 g1, eqDs_eqv h2 g2]
end
end
end Ev

namespace Ev
open PySem PySem.Spec L2
open PyProof.Rows (IsTup)
section
variable {X : Cx} {A : Ad}
theorem scal_rep {K : PySem.W.Frag} {H : Hp} {ρ : Lc} {a b : D} {x y : V} (h : scalD a b = true) (ha : RepD K H ρ a x) (hb : RepD K H ρ b y) : scal x y = true ∧ decide (x = y) = eqD a b := by
  cases a <;> cases b <;> first | exact (Bool.false_ne_true h).elim | (cases ha; cases hb; refine ⟨rfl, ?_⟩; simp [eqD, Bool.beq_eq_decide_eq]; done) | (cases ha; cases hb; refine ⟨rfl, ?_⟩; simp only [eqD]; rw [Bool.eq_iff_iff]; simp; done) | skip
theorem v_eq (hu : X.A.units + 64 < cLine) : OpR X (compareOp .Eq) (rV2 A X.K (cmpD .eq)) := by
  intro pins s σ H x y v u Q I rx ry h
  obtain ⟨ρ, S, dx, dy, rs, hx, hy, q⟩ := h
  obtain ⟨hc, q⟩ := q.okV
  unfold eqT at hc
  rw [Bool.or_eq_true, Bool.and_eq_true] at hc
  rcases hc with hc | ⟨h1, h2⟩
  · obtain ⟨e1, e2⟩ := scal_rep hc hx hy
    exact op_eq pins s σ H _ _ v u Q I rx ry ⟨e1, by rw [e2]; exact q.val rs rfl⟩
  · obtain ⟨p1, a1, a2, a3, a4⟩ := okD_dp h1 hx
    obtain ⟨p2, b1, b2, b3, b4⟩ := okD_dp h2 hy
    refine op_eqD hu pins s σ H _ _ v u Q I rx ry ⟨p1, p2, a2, b2, ?_, ?_, ?_⟩
    · unfold SeqAt.shaped; rw [a3, decide_eq_true a4]; rfl
    · unfold SeqAt.shaped; rw [b3, decide_eq_true b4]; rfl
    · rw [← eqD_eqv a1 b1]; exact q.val rs rfl
theorem v_ne (hu : X.A.units + 64 < cLine) : OpR X (compareOp .NotEq) (rV2 A X.K (cmpD .ne)) := by
  intro pins s σ H x y v u Q I rx ry h
  obtain ⟨ρ, S, dx, dy, rs, hx, hy, q⟩ := h
  obtain ⟨hc, q⟩ := q.okV
  unfold eqT at hc
  rw [Bool.or_eq_true, Bool.and_eq_true] at hc
  rcases hc with hc | ⟨h1, h2⟩
  · obtain ⟨e1, e2⟩ := scal_rep hc hx hy
    exact op_ne pins s σ H _ _ v u Q I rx ry ⟨e1, by rw [e2]; exact q.val rs rfl⟩
  · obtain ⟨p1, a1, a2, a3, a4⟩ := okD_dp h1 hx
    obtain ⟨p2, b1, b2, b3, b4⟩ := okD_dp h2 hy
    refine op_neD hu pins s σ H _ _ v u Q I rx ry ⟨p1, p2, a2, b2, ?_, ?_, ?_⟩
    · unfold SeqAt.shaped; rw [a3, decide_eq_true a4]; rfl
    · unfold SeqAt.shaped; rw [b3, decide_eq_true b4]; rfl
    · rw [← eqD_eqv a1 b1]; exact q.val rs rfl
theorem flat_rep {K : PySem.W.Frag} {H : Hp} {ρ : Lc} {a : D} {x : V} (h : flatD a = true) (ha : RepD K H ρ a x) : flatV x = true := by
  cases a <;> first | exact (Bool.false_ne_true h).elim | (cases ha; rfl)
theorem eqV_rep {K : PySem.W.Frag} {H : Hp} {ρ : Lc} {a b : D} {x y : V} (h : flatD a = true) (h' : flatD b = true) (ha : RepD K H ρ a x) (hb : RepD K H ρ b y) : eqV x y = eqD a b := by
  cases a <;> first | exact (Bool.false_ne_true h).elim | skip
  all_goals (cases b <;> first | exact (Bool.false_ne_true h').elim | (cases ha; cases hb; first | rfl | (simp only [eqV, eqD]; rw [Bool.eq_iff_iff]; simp; done)))
theorem flats_rep {K : PySem.W.Frag} {H : Hp} {ρ : Lc} : ∀ {ds : List D} {vs : List V}, ds.all flatD = true → RepDs K H ρ ds vs → vs.all flatV = true
  | [], _, _, h => by cases h; rfl
  | d :: ds, _, o, h => by
    obtain ⟨v, r, rfl, h1, h2⟩ := h
    rw [List.all_cons, Bool.and_eq_true] at o
    rw [List.all_cons, flat_rep o.1 h1, flats_rep o.2 h2]
    rfl
theorem inV_rep {K : PySem.W.Frag} {H : Hp} {ρ : Lc} {a : D} {x : V} (h : flatD a = true) (ha : RepD K H ρ a x) : ∀ {ds : List D} {vs : List V}, ds.all flatD = true → RepDs K H ρ ds vs → inV x vs = inD a ds
  | [], _, _, h => by cases h; rfl
  | d :: ds, _, o, h' => by
    obtain ⟨v, r, rfl, h1, h2⟩ := h'
    rw [List.all_cons, Bool.and_eq_true] at o
    have ih := inV_rep h ha o.2 h2
    unfold inV at ih ⊢
    unfold inD at ih ⊢
    rw [List.any_cons, List.any_cons, ih, eqV_rep o.1 h h1 ha]
theorem isin_rep {H : Hp} {ρ : Lc} {a b : D} {x y : V} {k : Bool} (h : isinD a b = some k) (hx : RepD X.K H ρ a x) (hy : RepD X.K H ρ b y) (Q : VK) :
    (∃ (c : Nat) (z : Str), x = .str ⟨#[c]⟩ ∧ y = .str z ∧ decide (c ∈ z.cps.toList) = k) ∨
    (∃ p vs, y = .ref p ∧ (SqL X.K H p vs ∨ SqT X.K H p vs) ∧ flatV x = true ∧ vs.all flatV = true ∧ inV x vs = k) := by
  have go : ∀ {xs : List D}, flatD a = true → (b = .tup xs ∨ b = .lst xs) → (if xs.all flatD = true then some (inD a xs) else none) = some k →
      ∃ p vs, y = .ref p ∧ (SqL X.K H p vs ∨ SqT X.K H p vs) ∧ flatV x = true ∧ vs.all flatV = true ∧ inV x vs = k := by
    intro xs fa hb e
    split at e
    · rename_i hf
      cases e
      rcases hb with rfl | rfl
      · obtain ⟨p, vs, rfl, h1, _, h3⟩ := hy
        exact ⟨p, vs, rfl, .inr h1, flat_rep fa hx, flats_rep hf h3, inV_rep fa hx hf h3⟩
      · obtain ⟨p, vs, rfl, h1, _, h3⟩ := hy
        exact ⟨p, vs, rfl, .inl h1, flat_rep fa hx, flats_rep hf h3, inV_rep fa hx hf h3⟩
    · cases e
  unfold isinD at h
  split at h
  · cases hx; cases hy; cases h
    refine .inl ⟨_, _, rfl, rfl, ?_⟩
    simp [List.contains_eq_mem]
  · exact .inr (go rfl (.inl rfl) h)
  · exact .inr (go rfl (.inr rfl) h)
  · exact .inr (go rfl (.inl rfl) h)
  · exact .inr (go rfl (.inr rfl) h)
  · cases h
theorem v_in : OpR X (compareOp .In) (rV2 A X.K (cmpD .isin)) := by
  intro pins s σ H x y v u Q I rx ry h
  obtain ⟨ρ, S, dx, dy, rs, hx, hy, q⟩ := h
  have q : Post A X.K H ρ (match isinD dx dy with | some k => .ok (.bl k) S | none => .bad) Q := q
  cases hk : isinD dx dy with
  | none => rw [hk] at q; exact (Post.bad q).elim
  | some k =>
    rw [hk] at q
    rcases isin_rep hk hx hy Q with ⟨c, z, rfl, rfl, e⟩ | ⟨p, vs, rfl, h1, h2, h3, e⟩
    · exact op_in_sign pins s σ H _ _ v u Q I rx ry ⟨c, z, rfl, rfl, by rw [e]; exact q.val rs rfl⟩
    · exact op_in_seq pins s σ H _ _ v u Q I rx ry ⟨p, vs, rfl, h1, h2, h3, by rw [e]; exact q.val rs rfl⟩
theorem v_notin : OpR X (compareOp .NotIn) (rV2 A X.K (cmpD .notin)) := by
  intro pins s σ H x y v u Q I rx ry h
  obtain ⟨ρ, S, dx, dy, rs, hx, hy, q⟩ := h
  have q : Post A X.K H ρ (match isinD dx dy with | some k => .ok (.bl (!k)) S | none => .bad) Q := q
  cases hk : isinD dx dy with
  | none => rw [hk] at q; exact (Post.bad q).elim
  | some k =>
    rw [hk] at q
    rcases isin_rep hk hx hy Q with ⟨c, z, rfl, rfl, e⟩ | ⟨p, vs, rfl, h1, h2, h3, e⟩
    · exact op_notIn_sign pins s σ H _ _ v u Q I rx ry ⟨c, z, rfl, rfl, by rw [e]; exact q.val rs rfl⟩
    · exact op_notIn_seq pins s σ H _ _ v u Q I rx ry ⟨p, vs, rfl, h1, h2, h3, by rw [e]; exact q.val rs rfl⟩
theorem non_rep {K : PySem.W.Frag} {H : Hp} {ρ : Lc} {a : D} {x : V} (ha : RepD K H ρ a x) : decide (x = .non) = isNon a := by
  cases a with
  | non => cases ha; rfl
  | bl _ => cases ha; rfl
  | int _ => cases ha; rfl
  | str _ => cases ha; rfl
  | tup _ => obtain ⟨a, vs, rfl, _⟩ := ha; rfl
  | lst _ => obtain ⟨a, vs, rfl, _⟩ := ha; rfl
  | obj _ => obtain ⟨a, rfl, _⟩ := ha; rfl
theorem v_is : OpR X (compareOp .Is) (rV2 A X.K (cmpD .isnone)) := by
  intro pins s σ H x y v u Q I rx ry h
  obtain ⟨ρ, S, dx, dy, rs, hx, hy, q⟩ := h
  obtain ⟨hc, q⟩ := q.okV
  have e : y = .non := by rw [← non_rep hy] at hc; exact of_decide_eq_true hc
  exact op_isN pins s σ H _ _ v u Q I rx ry ⟨e, by rw [non_rep hx]; exact q.val rs rfl⟩
theorem v_isnot : OpR X (compareOp .IsNot) (rV2 A X.K (cmpD .notnone)) := by
  intro pins s σ H x y v u Q I rx ry h
  obtain ⟨ρ, S, dx, dy, rs, hx, hy, q⟩ := h
  obtain ⟨hc, q⟩ := q.okV
  have e : y = .non := by rw [← non_rep hy] at hc; exact of_decide_eq_true hc
  exact op_notN pins s σ H _ _ v u Q I rx ry ⟨e, by rw [non_rep hx]; exact q.val rs rfl⟩
/-! ### reading lists and tuples -/
theorem items_rep {H : Hp} {ρ : Lc} {S : Sto} {K : PySem.W.Frag} (rs : RepS A K H ρ S) {d : D} {xs : List D} {v : V} (h : itemsD d S = some xs) (hd : RepD K H ρ d v) : ∃ a vs, v = .ref a ∧ (SqL K H a vs ∨ (SqT K H a vs ∧ d = .tup xs)) ∧ RepDs K H ρ xs vs := by
  unfold itemsD at h
  split at h
  · cases h; obtain ⟨a, vs, rfl, h1, h2, h3⟩ := hd; exact ⟨a, vs, rfl, .inr ⟨h1, rfl⟩, h3⟩
  · cases h; obtain ⟨a, vs, rfl, h1, h2, h3⟩ := hd; exact ⟨a, vs, rfl, .inl h1, h3⟩
  · obtain ⟨a, rfl, h1⟩ := hd
    split at h
    · rename_i hs
      cases h
      obtain ⟨vs, g1, g2⟩ := rs.at_ hs h1
      exact ⟨a, vs, rfl, .inl (SqL.of g1), g2⟩
    · cases h
  · cases h
theorem ixD_eq (n : Nat) (i : Int) : ixN n i = ixD n i := rfl
theorem at_rep {H : Hp} {ρ : Lc} {K : PySem.W.Frag} {xs : List D} {vs : List V} {i : Int} {d : D} (r : RepDs K H ρ xs vs) (h : ((ixD xs.length i).bind fun j => xs[j]?) = some d) : ∃ v, atI vs i = some v ∧ RepD K H ρ d v := by
  obtain ⟨j, h1, h2⟩ := Option.bind_eq_some_iff.mp h
  obtain ⟨v, h3, h4⟩ := r.get h2
  refine ⟨v, ?_, h4⟩
  unfold atI
  rw [r.length, ixD_eq, h1]
  exact h3
theorem v_idx : IxR X (rV2 A X.K idxD) := by
  intro value slice pins s σ H x y v u Q I rx ry h hs
  obtain ⟨ρ, S, dx, dy, rs, hx, hy, q⟩ := h
  unfold idxD at q
  split at q
  · rename_i z i
    cases hx; cases hy
    split at q
    · rename_i hl
      cases hk : ((ixD z.length i).bind fun j => z[j]?) with
      | none => rw [hk] at q; exact (Post.bad q).elim
      | some c =>
        rw [hk] at q
        exact ix_str value slice pins s σ H _ _ v u Q I rx ry ⟨_, i, c, rfl, rfl, by rw [str_len, line_eq]; exact hl, by show atI (z.toArray.toList) i = some c; exact hk, q.val rs rfl⟩ hs
    · exact (Post.bad q).elim
  · rename_i d i _
    cases hy
    cases hk : itemsD dx S with
    | none => rw [hk] at q; exact (Post.bad q).elim
    | some xs =>
      rw [hk] at q
      obtain ⟨a, vs, rfl, h1, h2⟩ := items_rep rs hk hx
      cases hj : ((ixD xs.length i).bind fun j => xs[j]?) with
      | none => simp only [hj] at q; exact (Post.bad q).elim
      | some e =>
        simp only [hj] at q
        obtain ⟨w, g1, g2⟩ := at_rep h2 hj
        rcases h1 with h1 | ⟨h1, _⟩
        · exact ix_list value slice pins s σ H _ _ v u Q I rx ry ⟨a, vs, i, w, rfl, rfl, h1, g1, q.val rs g2⟩ hs
        · exact ix_tup value slice pins s σ H _ _ v u Q I rx ry ⟨a, vs, i, w, rfl, rfl, h1, g1, q.val rs g2⟩ hs
  · exact (Post.bad q).elim
/-! ### slices -/
theorem sIx_eq (n d : Nat) (o : Option Int) : HT.sIx n d o = sIxD n d o := rfl
theorem cut_rep {H : Hp} {ρ : Lc} {K : PySem.W.Frag} {xs : List D} {vs : List V} (r : RepDs K H ρ xs vs) (lo hi : Option Int) : RepDs K H ρ (cutD xs lo hi) (cutV vs lo hi) := by
  unfold cutD cutV
  rw [r.length, sIx_eq, sIx_eq]
  exact (r.drop _).take _
theorem sIxD_le (n d : Nat) (hd : d ≤ n) (o : Option Int) : sIxD n d o ≤ n := HT.sIx_le n d hd o
def rSl (A : Ad) (K : PySem.W.Frag) : V → Option Int → Option Int → Hp → VK → Prop := fun x lo hi H Q => ∃ ρ S dx, RepS A K H ρ S ∧ RepD K H ρ dx x ∧ Post A K H ρ (slD dx lo hi S) Q
theorem v_sl : SlR X (rSl A X.K) := by
  intro pins s σ H x v vl vu lo hi sl Q I rx hs pl pu h
  obtain ⟨ρ, S, dx, rs, hx, q⟩ := h
  cases dx <;> first | exact (Post.bad q).elim | skip
  · cases hx
    obtain ⟨hc, q⟩ := q.okV
    refine sl_str pins s σ H _ v vl vu lo hi sl Q I rx hs pl pu ⟨_, rfl, by rw [str_len, line_eq]; exact of_decide_eq_true hc, ?_⟩
    rename_i x _
    have e : cutS ⟨x.toArray⟩ lo hi = ⟨(cutD x lo hi).toArray⟩ := by
      unfold cutS cutD
      rw [str_len]
      rfl
    rw [e]
    exact q.val rs rfl
  · obtain ⟨a, vs, rfl, h1, h2, h3⟩ := hx
    obtain ⟨hc, q⟩ := q.okV
    refine sl_tup pins s σ H _ v vl vu lo hi sl Q I rx hs pl pu ⟨a, vs, rfl, h1, fun hw => ?_, fun p hp => ?_⟩
    · rw [h3.length, sIx_eq, sIx_eq] at hw
      rw [decide_eq_true hw.1, decide_eq_true hw.2] at hc
      cases hc
    · obtain ⟨q1, q2, q3⟩ := rs.newT (cut_rep h3 lo hi) hp
      exact q.run q2 q1 q3
  · obtain ⟨a, vs, rfl, h1, h2, h3⟩ := hx
    refine sl_list pins s σ H _ v vl vu lo hi sl Q I rx hs pl pu ⟨a, vs, rfl, h1, fun p hp => ?_⟩
    obtain ⟨q1, q2, q3⟩ := rs.newL (cut_rep h3 lo hi) hp
    exact q.run q2 q1 q3
/-! ### truth -/
theorem tru_rep {H : Hp} {ρ : Lc} {S : Sto} {K : PySem.W.Frag} (rs : RepS A K H ρ S) {d : D} {v : V} {k : Bool} (h : truD d S = some k) (hd : RepD K H ρ d v) : TruV K v H k := by
  unfold truD at h
  split at h
  · cases h; cases hd; rfl
  · cases h; cases hd; rfl
  · cases h; cases hd; rfl
  · split at h
    · rename_i x hl
      cases h; cases hd
      refine ⟨by rw [str_len, line_eq]; exact hl, ?_⟩
      rw [str_len]
      cases x <;> simp
      omega
    · cases h
  · cases h
    obtain ⟨a, vs, rfl, h1, h2, h3⟩ := hd
    refine .inr (.inl ⟨vs, h1, ?_⟩)
    have := h3.length
    rw [Bool.eq_iff_iff]
    simp [List.isEmpty_iff, ← List.length_eq_zero_iff, this]
  · cases h
    obtain ⟨a, vs, rfl, h1, h2, h3⟩ := hd
    refine .inl ⟨vs, h1, ?_⟩
    have := h3.length
    rw [Bool.eq_iff_iff]
    simp [List.isEmpty_iff, ← List.length_eq_zero_iff, this]
  · split at h
    · rename_i hs
      cases h
      obtain ⟨a, rfl, h1⟩ := hd
      obtain ⟨vs, g1, g2⟩ := rs.at_ hs h1
      refine .inl ⟨vs, SqL.of g1, ?_⟩
      have := g2.length
      rw [Bool.eq_iff_iff]
      simp [List.isEmpty_iff, ← List.length_eq_zero_iff, this]
    · cases h
end
end Ev

namespace Ev
open PySem PySem.Spec L2
open PyProof.Rows (IsTup)
def rVs (A : Ad) (K : PySem.W.Frag) (f : List D → Sto → Res D) : List V → Hp → VK → Prop := fun vs H Q => ∃ ρ S ds, RepS A K H ρ S ∧ RepDs K H ρ ds vs ∧ Post A K H ρ (f ds S) Q
def rVm (A : Ad) (K : PySem.W.Frag) (f : D → List D → Sto → Res D) : V → List V → Hp → VK → Prop := fun x vs H Q => ∃ ρ S dx ds, RepS A K H ρ S ∧ RepD K H ρ dx x ∧ RepDs K H ρ ds vs ∧ Post A K H ρ (f dx ds S) Q
section
variable {X : Cx} {A : Ad}
theorem repDs1 {K : PySem.W.Frag} {H : Hp} {ρ : Lc} {d : D} {vs : List V} (h : RepDs K H ρ [d] vs) : ∃ v, vs = [v] ∧ RepD K H ρ d v := by
  obtain ⟨v, r, rfl, h1, h2⟩ := h
  cases h2
  exact ⟨v, rfl, h1⟩
theorem repDs2 {K : PySem.W.Frag} {H : Hp} {ρ : Lc} {d e : D} {vs : List V} (h : RepDs K H ρ [d, e] vs) : ∃ v u, vs = [v, u] ∧ RepD K H ρ d v ∧ RepD K H ρ e u := by
  obtain ⟨v, r, rfl, h1, h2⟩ := h
  obtain ⟨u, rfl, h3⟩ := repDs1 h2
  exact ⟨v, u, rfl, h1, h3⟩
theorem len_rep {H : Hp} {ρ : Lc} {S : Sto} {K : PySem.W.Frag} (rs : RepS A K H ρ S) {d : D} {v : V} {n : Nat} (h : lenD d S = some n) (hd : RepD K H ρ d v) : LenV K v H n := by
  unfold lenD at h
  split at h
  · cases hd
    split at h
    · rename_i hl
      cases h
      exact ⟨by rw [str_len, line_eq]; exact hl, (str_len _).symm⟩
    · cases h
  · obtain ⟨xs, h1, rfl⟩ := Option.map_eq_some_iff.mp h
    obtain ⟨a, vs, rfl, g1, g2⟩ := items_rep rs h1 hd
    rcases g1 with g1 | ⟨g1, _⟩
    · exact .inl ⟨vs, g1, g2.length.symm⟩
    · exact .inr ⟨vs, g1, g2.length.symm⟩
theorem c_len : CallR X (.builtin "len") (rVs A X.K (bltD .len)) := by
  intro pins s σ H vs us Q I r h
  obtain ⟨ρ, S, ds, rs, hd, q⟩ := h
  replace q : Post A X.K H ρ (bLen ds S) Q := q
  unfold bLen at q
  split at q
  · rename_i d
    obtain ⟨v, rfl, h1⟩ := repDs1 hd
    cases hl : lenD d S with
    | none => rw [hl] at q; exact (Post.bad q).elim
    | some n =>
      rw [hl] at q
      exact call_len pins s σ H [v] us Q I r ⟨v, n, rfl, len_rep rs hl h1, q.val rs rfl⟩
  · exact (Post.bad q).elim
theorem c_tuple : CallR X (.type "tuple") (rVs A X.K (bltD .tuple)) := by
  intro pins s σ H vs us Q I r h
  obtain ⟨ρ, S, ds, rs, hd, q⟩ := h
  replace q : Post A X.K H ρ (bTuple ds S) Q := q
  unfold bTuple at q
  split at q
  · rename_i d
    obtain ⟨v, rfl, h1⟩ := repDs1 hd
    cases hl : itemsD d S with
    | none => rw [hl] at q; exact (Post.bad q).elim
    | some xs =>
      rw [hl] at q
      obtain ⟨a, vs, rfl, g1, g2⟩ := items_rep rs hl h1
      rcases g1 with g1 | ⟨g1, rfl⟩
      · refine call_tuple_of pins s σ H _ us Q I r ⟨a, vs, rfl, .inl ⟨g1, fun p hp => ?_⟩⟩
        obtain ⟨q1, q2, q3⟩ := rs.newT g2 hp
        exact q.run q2 q1 q3
      · exact call_tuple_of pins s σ H _ us Q I r ⟨a, vs, rfl, .inr ⟨g1, q.val rs h1⟩⟩
  · exact (Post.bad q).elim
theorem ints_rep {K : PySem.W.Frag} {H : Hp} {ρ : Lc} : ∀ {ds : List D} {vs : List V} {ns : List Int}, intsD ds = some ns → RepDs K H ρ ds vs → vs = ns.map V.int
  | [], _, _, e, h => by cases e; cases h; rfl
  | .int i :: ds, _, _, e, h => by
    obtain ⟨v, r, rfl, h1, h2⟩ := h
    have e : (intsD ds).map (fun ys => i :: ys) = some _ := e
    obtain ⟨ys, e1, rfl⟩ := Option.map_eq_some_iff.mp e
    cases h1
    rw [ints_rep e1 h2]
    rfl
theorem strs_rep {K : PySem.W.Frag} {H : Hp} {ρ : Lc} : ∀ {ds : List D} {vs : List V} {ys : List (List Nat)}, strsD ds = some ys → RepDs K H ρ ds vs → vs = (ys.map fun y => (⟨y.toArray⟩ : Str)).map V.str
  | [], _, _, e, h => by cases e; cases h; rfl
  | .str i :: ds, _, _, e, h => by
    obtain ⟨v, r, rfl, h1, h2⟩ := h
    have e : (strsD ds).map (fun ys => i :: ys) = some _ := e
    obtain ⟨ys, e1, rfl⟩ := Option.map_eq_some_iff.mp e
    cases h1
    rw [strs_rep e1 h2]
    rfl
theorem c_sum (hc : X.calm = true) : CallR X (.builtin "sum") (rVs A X.K (bltD .sum)) := by
  intro pins s σ H vs us Q I r h
  obtain ⟨ρ, S, ds, rs, hd, q⟩ := h
  replace q : Post A X.K H ρ (bSum ds S) Q := q
  unfold bSum at q
  split at q
  · rename_i xs
    obtain ⟨v, rfl, h1⟩ := repDs1 hd
    cases hl : intsD xs with
    | none => rw [hl] at q; exact (Post.bad q).elim
    | some ns =>
      rw [hl] at q
      obtain ⟨a, vs, rfl, g1, g2, g3⟩ := h1
      exact cr_sum hc pins s σ H _ us Q I r ⟨a, ns, rfl, by rw [← ints_rep hl g3]; exact g1, q.val rs rfl⟩
  · exact (Post.bad q).elim
/-! ### methods -/
theorem obj_at {H : Hp} {ρ : Lc} {S : Sto} {K : PySem.W.Frag} (rs : RepS A K H ρ S) {n : Nat} {v : V} (h : RepD K H ρ (.obj n) v) {o : AO} (ho : S[n]? = some o) : ∃ a, v = .ref a ∧ ρ.o[n]? = some a ∧ RepO A K H ρ o a := by
  obtain ⟨a, rfl, h1⟩ := h
  exact ⟨a, rfl, h1, rs.at_ ho h1⟩
theorem m_append : MtR X "list.append" (rVm A X.K (bmD .append)) := by
  intro pins s σ H x vs v us Q I rx rv h
  obtain ⟨ρ, S, dx, ds, rs, hx, hd, q⟩ := h
  replace q : Post A X.K H ρ (mAppend dx ds S) Q := q
  unfold mAppend at q
  split at q
  · rename_i n d
    split at q
    · rename_i xs hs
      obtain ⟨hc, q⟩ := q.okV
      obtain ⟨a, rfl, e, ws, h1, h2⟩ := obj_at rs hx hs
      obtain ⟨w, rfl, h3⟩ := repDs1 hd
      refine mt_append pins s σ H _ _ v us Q I rx rv ⟨a, ws, w, rfl, rfl, h1, ?_, ?_⟩
      · rw [h2.length, line_eq]; exact of_decide_eq_true hc
      · obtain ⟨q1, q2⟩ := rs.write e (u := .lst (ws ++ [w])) (o := .lst (xs ++ [d])) fun f fs => ⟨_, upd_same, (fs _ _ h2).append ⟨w, [], rfl, f _ _ h3, rfl⟩⟩
        exact q.run q2 q1 rfl
    · exact (Post.bad q).elim
  · exact (Post.bad q).elim
theorem joinS_eq (x : List Nat) : ∀ ys : List (List Nat), Str.join ⟨x.toArray⟩ (ys.map fun y => (⟨y.toArray⟩ : Str)) = ⟨(joinS x ys).toArray⟩
  | [] => rfl
  | [y] => rfl
  | y :: z :: r => by
    have ih := joinS_eq x (z :: r)
    show (⟨y.toArray⟩ : Str) ++ ⟨x.toArray⟩ ++ Str.join _ _ = _
    rw [ih, str_app, str_app]
    rfl
theorem m_join : MtR X "str.join" (rVm A X.K (bmD .join)) := by
  intro pins s σ H x vs v us Q I rx rv h
  obtain ⟨ρ, S, dx, ds, rs, hx, hd, q⟩ := h
  replace q : Post A X.K H ρ (mJoin dx ds S) Q := q
  unfold mJoin at q
  split at q
  · rename_i z d
    cases hl : (itemsD d S).bind strsD with
    | none => rw [hl] at q; exact (Post.bad q).elim
    | some ys =>
      rw [hl] at q
      obtain ⟨hc, q⟩ := q.okV
      obtain ⟨xs, h1, h2⟩ := Option.bind_eq_some_iff.mp hl
      obtain ⟨w, rfl, h3⟩ := repDs1 hd
      obtain ⟨a, ws, rfl, g1, g2⟩ := items_rep rs h1 h3
      cases hx
      have e := strs_rep h2 g2
      subst e
      refine mt_join pins s σ H _ _ v us Q I rx rv ⟨_, a, ys.map fun y => (⟨y.toArray⟩ : Str), rfl, rfl, ?_, ?_, ?_⟩
      · rcases g1 with g1 | ⟨g1, _⟩
        · exact .inl g1
        · exact .inr g1
      · rw [str_len, List.map_map, List.length_map]
        have e2 : ((·.length) ∘ fun y : List Nat => (⟨y.toArray⟩ : Str)) = List.length := by funext y; exact str_len y
        rw [e2]
        exact of_decide_eq_true hc
      · rw [TL.join_eq, joinS_eq]
        exact q.val rs rfl
  · exact (Post.bad q).elim
theorem m_index : MtR X "str.index" (rVm A X.K (bmD .sindex)) := by
  intro pins s σ H x vs v us Q I rx rv h
  obtain ⟨ρ, S, dx, ds, rs, hx, hd, q⟩ := h
  replace q : Post A X.K H ρ (mIndex dx ds S) Q := q
  unfold mIndex at q
  split at q
  · rename_i z y
    obtain ⟨w, rfl, h3⟩ := repDs1 hd
    cases hx
    cases h3
    obtain ⟨t, rfl⟩ := rx
    obtain ⟨u, rfl, t', rfl⟩ := rv.one
    cases hl : Builtin.Str.occurrences ⟨z.toArray⟩ ⟨y.toArray⟩ 0 z.length 1 with
    | nil => rw [hl] at q; exact (Post.bad q).elim
    | cons j r =>
      rw [hl] at q
      refine call_gives F.slot_str_index (typeIs_str _ _ _) F.entry_str_index (F.args_str_index_2 _ _) (gives_str_index _ _ t t' j r (by rw [str_len]; exact hl)) ?_
      exact ⟨.int j, H, I.tok _, ⟨_, rfl⟩, q.val rs rfl⟩
  · exact (Post.bad q).elim
theorem kV_keys {K : PySem.W.Frag} {H : Hp} {ρ : Lc} : ∀ {ds : List D} {vs : List V} {ks : List Ky}, keysD ds = some ks → RepDs K H ρ ds vs → vs = (ks.map kyK).map kV
  | [], _, _, e, h => by cases e; cases h; rfl
  | d :: ds, _, _, e, h => by
    obtain ⟨v, r, rfl, h1, h2⟩ := h
    unfold keysD at e
    obtain ⟨k, e1, e2⟩ := Option.bind_eq_some_iff.mp e
    obtain ⟨ks, e3, rfl⟩ := Option.map_eq_some_iff.mp e2
    rw [kV_keys e3 h2]
    cases d <;> first | (cases e1; cases h1; rfl) | cases e1
theorem kV_keysI {K : PySem.W.Frag} {H : Hp} {ρ : Lc} : ∀ {ds : List D} {vs : List V} {ks : List Ky}, keysI ds = some ks → RepDs K H ρ ds vs → vs = (ks.map kyK).map kV
  | [], _, _, e, h => by cases e; cases h; rfl
  | .int i :: ds, _, _, e, h => by
    obtain ⟨v, r, rfl, h1, h2⟩ := h
    have e : (keysI ds).map (fun ks => Ky.i i :: ks) = some _ := e
    obtain ⟨ks, e3, rfl⟩ := Option.map_eq_some_iff.mp e
    rw [kV_keysI e3 h2]
    cases h1
    rfl
/-- a way's tuple is tracked -/
theorem way_at {K : PySem.W.Frag} {H : Hp} {ρ : Lc} {ds : List D} {ks : List Ky} {v : V} (e : keysI ds = some ks) (h : RepD K H ρ (.tup ds) v) : ∃ b, v = .ref b ∧ H b = some (.tup ((ks.map kyK).map kV)) := by
  obtain ⟨b, vs, rfl, h1, h2, h3⟩ := h
  have ev := kV_keysI e h3
  subst ev
  rcases h2 with ⟨h2, _⟩ | ⟨_, hne, hall⟩
  · exact ⟨b, rfl, h2⟩
  · cases ds with
    | nil =>
      cases e
      exact absurd rfl hne
    | cons d ds =>
      cases d <;> first | (cases e; done) | skip
      obtain ⟨v, r, e1, e2, _⟩ := h3
      cases e2
      obtain ⟨x, ex⟩ := hall _ (by rw [e1]; exact List.mem_cons_self)
      cases ex
theorem val_rep {K : PySem.W.Frag} {H : Hp} {ρ : Lc} : ∀ {kvs : List (List Ky × D)} {us : List (List Key × V)} (ks : List Ky), RepK K H ρ kvs us → (valD kvs ks = none ∧ valV us (ks.map kyK) = none) ∨ ∃ d v, valD kvs ks = some d ∧ valV us (ks.map kyK) = some v ∧ RepD K H ρ d v
  | _, _, ks, .nil => .inl ⟨rfl, rfl⟩
  | p :: kvs, q :: us, ks, .cons h t => by
    have ih := val_rep ks t
    unfold valD valV at ih ⊢
    rw [List.find?_cons, List.find?_cons]
    by_cases e : p.1 = ks
    · have e' : q.1 = ks.map kyK := by rw [h.1, e]
      rw [decide_eq_true e, decide_eq_true e']
      exact .inr ⟨_, _, rfl, rfl, h.2⟩
    · have e' : ¬ q.1 = ks.map kyK := fun z => e (kyKs_inj (h.1.symm.trans z))
      rw [decide_eq_false e, decide_eq_false e']
      exact ih
end
end Ev

namespace Ev
open PySem PySem.Spec L2
open PyProof.Rows (IsTup)

/-! ### the text against the mini language -/
structure FnI where
  name : Str
  qual : Str
  st : Stmt
  N : List Str
  ps : List Str
  fn : Fn
  cl : Option Nat
structure Gc where
  fns : List FnI
  cls : List Str
  attrs : List Str
  globs : List (Str × D)
  gdicts : List (Str × List (List Nat × List Nat))
  gtups : List (Str × List (List Nat))
def visB (sc : Scope) (x : Str) : Bool := match sc.names.lookup x with
  | some .local => true | some .cell => true | some .free => true | _ => false
def glB (sc : Scope) (x : Str) : Bool := decide (sc.names.lookup x = some .globalImplicit)
def nameOk (x : Str) : Bool := !(x == "__debug__") && !(x == "__classdict__") && !(x == "__name__")
def cstB : D → Const → Bool
  | .non, .none => true
  | .bl a, .bool b => a == b
  | .int a, .int b => a == b
  | .str a, .str b => decide (b = ⟨a.toArray⟩)
  | _, _ => false
def binB : Op → Operator → Bool
  | .add, .Add => true | .sub, .Sub => true | .mul, .Mult => true | .fdiv, .FloorDiv => true | .mod, .Mod => true | _, _ => false
def cmpB : Op → CmpOp → Bool
  | .eq, .Eq => true | .ne, .NotEq => true | .lt, .Lt => true | .le, .LtE => true | .gt, .Gt => true | .ge, .GtE => true
  | .isin, .In => true | .notin, .NotIn => true | .isnone, .Is => true | .notnone, .IsNot => true | _, _ => false
def noSet : Expr → Bool
  | .Set _ _ _ => false | _ => true
def noStar : Expr → Bool
  | .Starred _ _ => false | _ => true
def noSlice : Expr → Bool
  | .Slice _ _ _ _ => false | _ => true
def baseOk : Expr → Bool
  | .Call (.Name _ _) [] [] _ => false | _ => true
def plainT : Expr → Bool
  | .UnaryOp .Not _ _ => false | .BoolOp _ _ _ => false | .IfExp _ _ _ _ => false | .Compare _ _ _ _ => false | _ => true
def fnB (G : Gc) (f : Nat) (x : Str) (cl : Option Nat) : Bool := match G.fns[f]? with
  | some fi => decide (fi.name = x) && decide (fi.cl = cl) | none => false
def bltB : Op → Str → Bool
  | .len, x => decide (x = "len")
  | .tuple, x => decide (x = "tuple")
  | .sum, x => decide (x = "sum")
  | _, _ => false
def bmB : Op → Str → Bool
  | .append, x => decide (x = "append")
  | .join, x => decide (x = "join")
  | .sindex, x => decide (x = "index")
  | _, _ => false
def locB (sc : Scope) (fn : Str → Bool) (x : Str) : Bool := decide (sc.names.lookup x = some .local) || (decide (sc.names.lookup x = some .cell) && fn x)
def tgB (N : List Str) (sc : Scope) (fn : Str → Bool) (i : Nat) : Expr → Bool
  | .Name x _ => decide (N[i]? = some x) && locB sc fn x
  | _ => false
def tgsB (N : List Str) (sc : Scope) (fn : Str → Bool) : List Nat → List Expr → Bool
  | [], [] => true
  | i :: is, e :: es => tgB N sc fn i e && tgsB N sc fn is es
  | _, _ => false
def chkTg (N : List Str) (sc : Scope) (fn : Str → Bool) : Tg → Expr → Bool
  | .name i, e => tgB N sc fn i e
  | .tup is, e => match e with | .Tuple es _ _ => tgsB N sc fn is es | _ => false
def tgI : Tg → List Nat
  | .name i => [i]
  | .tup is => is
def isTuple : Expr → Bool
  | .Tuple _ _ _ => true | _ => false
def ownL (N : List Str) (own : List Nat) : List (Str × Nat) := own.filterMap fun i => (N[i]?).map fun x => (x, i)
mutual
def chkE (G : Gc) (N : List Str) (sc : Scope) : Ex → Expr → Bool
  | .bad, _ => true
  | .var i, e => match e with
    | .Name x _ => decide (N[i]? = some x) && visB sc x && nameOk x
    | _ => false
  | .cst d, e => match e with
    | .Constant k _ _ => cstB d k
    | _ => false
  | .glob x d, e => match e with
    | .Name y _ => decide (y = x) && glB sc x && nameOk x && G.globs.any fun p => decide (p.1 = x) && sameD p.2 d
    | _ => false
  | .tup as, e => match e with
    | .Tuple es _ _ => chkA G N sc as es
    | _ => false
  | .lst as, e => match e with
    | .List es _ => chkA G N sc as es
    | _ => false
  | .newl, e => match e with
    | .List [] _ => true
    | _ => false
  | .newd, e => match e with
    | .Dict [] [] _ => true
    | _ => false
  | .bin o a b, e => match e with
    | .BinOp l op r _ => binB o op && chkE G N sc a l && chkE G N sc b r
    | _ => false
  | .cmp o a b, e => match e with
    | .Compare l [op] [r] _ => cmpB o op && noSet r && chkE G N sc a l && chkE G N sc b r
    | _ => false
  | .and a b, e => match e with
    | .BoolOp .And [l, r] _ => chkE G N sc a l && chkE G N sc b r
    | .BoolOp .And (l :: r :: r2 :: rs) pos => chkE G N sc a l && chkE G N sc b (.BoolOp .And (r :: r2 :: rs) pos)
    | _ => false
  | .or a b, e => match e with
    | .BoolOp .Or [l, r] _ => chkE G N sc a l && chkE G N sc b r
    | .BoolOp .Or (l :: r :: r2 :: rs) pos => chkE G N sc a l && chkE G N sc b (.BoolOp .Or (r :: r2 :: rs) pos)
    | _ => false
  | .not a, e => match e with
    | .UnaryOp .Not x _ => chkE G N sc a x
    | _ => false
  | .neg a, e => match e with
    | .UnaryOp .USub x _ => chkE G N sc a x
    | _ => false
  | .ite c a b, e => match e with
    | .IfExp t x y _ => chkT G N sc c t && chkE G N sc a x && chkE G N sc b y
    | _ => false
  | .idx a b, e => match e with
    | .Subscript l r _ => noSlice r && chkE G N sc a l && chkE G N sc b r
    | _ => false
  | .sl a lo hi, e => match e with
    | .Subscript l (.Slice lo' hi' none _) _ => chkE G N sc a l && chkP G N sc lo lo' && chkP G N sc hi hi'
    | _ => false
  | .gdict x kvs k, e => match e with
    | .Subscript (.Name y _) r _ => noSlice r && decide (y = x) && glB sc x && nameOk x && (G.gdicts.any fun p => decide (p.1 = x) && decide (p.2 = kvs)) && chkE G N sc k r
    | _ => false
  | .gtix x xs k, e => match e with
    | .Call (.Attribute (.Name y _) m apos) [r] [] cpos => decide (m = "index") && (apos.endLine == cpos.line) && decide (y = x) && glB sc x && nameOk x && (G.gtups.any fun p => decide (p.1 = x) && decide (p.2 = xs)) && noStar r && chkE G N sc k r
    | _ => false
  | .call f as, e => match e with
    | .Call (.Name y _) es [] _ => fnB G f y none && glB sc y && nameOk y && chkA G N sc as es
    | _ => false
  | .meth C f o as, e => match e with
    | .Call (.Attribute ob m apos) es [] pos => fnB G f m (some C) && !(m == "__init__") && decide (C < G.cls.length) && baseOk ob && (apos.endLine == pos.line) && decide (es.length < 29) && chkE G N sc o ob && chkA G N sc as es
    | _ => false
  | .make C f as, e => match e with
    | .Call (.Name y _) es [] _ => fnB G f "__init__" (some C) && decide (G.cls[C]? = some y) && glB sc y && nameOk y && chkA G N sc as es
    | _ => false
  | .fld C o f, e => match e with
    | .Attribute ob x _ => decide (G.attrs[f]? = some x) && decide (C < G.cls.length) && baseOk ob && chkE G N sc o ob
    | _ => false
  | .blt o as, e => match e with
    | .Call (.Name y _) (e1 :: es) [] _ => bltB o y && glB sc y && chkA G N sc as (e1 :: es)
    | _ => false
  | .bm o a as, e => match e with
    | .Call (.Attribute ob m apos) (e1 :: es) [] cpos => bmB o m && baseOk ob && (apos.endLine == cpos.line) && decide (es.length < 28) && chkE G N sc a ob && chkA G N sc as (e1 :: es)
    | _ => false
  | .dget o p d, e => match e with
    | .Call (.Attribute ob m apos) [e1, e2] [] cpos => decide (m = "get") && baseOk ob && (apos.endLine == cpos.line) && noStar e1 && noStar e2 && chkE G N sc o ob && chkE G N sc p e1 && chkE G N sc d e2
    | _ => false
  | .comp src tg ts elt own, e => match e with
    | .ListComp elt' [g] scope _ => decide (g.is_async = 0) && noSet g.iter && chkSr G N sc src g.iter g.target && blkC N sc scope (ownL N own) && decide ((ownL N own).map (·.2) = own) && chkTg N (relS scope sc) (fun x => scope.names.lookup x == some .cell) tg g.target && (tgI tg).all (fun i => decide (i ∈ own)) && chkTq G N (relS scope sc) ts g.ifs && chkE G N (relS scope sc) elt elt'
    | _ => false
def chkA (G : Gc) (N : List Str) (sc : Scope) : As → List Expr → Bool
  | .nil, es => match es with
    | [] => true
    | _ => false
  | .cons p r, es => match es with
    | e :: es => noStar e && chkE G N sc p e && chkA G N sc r es
    | _ => false
def chkP (G : Gc) (N : List Str) (sc : Scope) : Pa → Option Expr → Bool
  | .none, o => match o with
    | none => true
    | _ => false
  | .some p, o => match o with
    | some e => chkE G N sc p e
    | _ => false
def chkT (G : Gc) (N : List Str) (sc : Scope) : Ts → Expr → Bool
  | .and a b, e => match e with
    | .BoolOp .And [l, r] _ => chkT G N sc a l && chkT G N sc b r
    | .BoolOp .And (l :: r :: r2 :: rs) pos => chkT G N sc a l && chkT G N sc b (.BoolOp .And (r :: r2 :: rs) pos)
    | _ => false
  | .or a b, e => match e with
    | .BoolOp .Or [l, r] _ => chkT G N sc a l && chkT G N sc b r
    | .BoolOp .Or (l :: r :: r2 :: rs) pos => chkT G N sc a l && chkT G N sc b (.BoolOp .Or (r :: r2 :: rs) pos)
    | _ => false
  | .not a, e => match e with
    | .UnaryOp .Not x _ => chkT G N sc a x
    | _ => false
  | .val p, e => plainT e && chkE G N sc p e
  | .cmp o a b, e => match e with
    | .Compare l [op] [r] _ => cmpB o op && noSet r && chkE G N sc a l && chkE G N sc b r
    | _ => false
def chkTq (G : Gc) (N : List Str) (sc : Scope) : Tq → List Expr → Bool
  | .none, es => match es with
    | [] => true
    | _ => false
  | .some t, es => match es with
    | [e] => chkT G N sc t e
    | _ => false
def chkSr (G : Gc) (N : List Str) (sc : Scope) : Sr → Expr → Expr → Bool
  | .seq p, e, _ => chkE G N sc p e
  | .range1 p, e, _ => match e with
    | .Call (.Name y _) [a] [] _ => decide (y = "range") && glB sc y && noStar a && chkE G N sc p a
    | _ => false
  | .range2 p q, e, _ => match e with
    | .Call (.Name y _) [a, b] [] _ => decide (y = "range") && glB sc y && noStar a && noStar b && chkE G N sc p a && chkE G N sc q b
    | _ => false
  | .enum p, e, tg => match e with
    | .Call (.Name y _) [a] [] _ => decide (y = "enumerate") && glB sc y && noStar a && isTuple tg && chkE G N sc p a
    | _ => false
  | .zip p q, e, tg => match e with
    | .Call (.Name y _) [a, b] [] _ => decide (y = "zip") && glB sc y && noStar a && noStar b && isTuple tg && chkE G N sc p a && chkE G N sc q b
    | _ => false
end
/-! ### side conditions -/
theorem starEach_cons {e : Expr} {es : List Expr} {env : Env} (h : noStar e = true) : starEach (e :: es) env = (false, eval e env) :: starEach es env := by
  cases e <;> first | rfl | cases h
theorem starEach_map {env : Env} : ∀ {es : List Expr}, es.all noStar = true → starEach es env = es.map fun e => (false, eval e env)
  | [], _ => rfl
  | e :: es, h => by
    rw [List.all_cons, Bool.and_eq_true] at h
    rw [starEach_cons h.1, starEach_map h.2]
    rfl
theorem backTo_plain {env : Env} {pos : Pos} {es : List Expr} (h : es.all noStar = true) : (backTo pos (starEach es env)).any (·.1) = false := by
  rw [starEach_map h]
  unfold backTo
  rw [List.map_map, List.any_map]
  simp
theorem backTo_all {env : Env} {pos : Pos} {es : List Expr} (h : es.all noStar = true) : (backTo pos (starEach es env)).all (fun x => !x.1) = true := by
  rw [starEach_map h]
  unfold backTo
  rw [List.map_map, List.all_map]
  simp
theorem base_ok {o : Expr} {m : Str} {env : Env} {whole : Sem Value} (h : baseOk o = true) : attributeBase o m env whole = whole := by
  cases o with
  | Call f as ks pos =>
    cases f with
    | Name id p =>
      cases as with
      | nil =>
        cases ks with
        | nil => cases h
        | cons => rfl
      | cons => rfl
    | _ => rfl
  | _ => rfl
theorem slice_ok {b : Expr} (h : noSlice b = true) : PlainIx b := by
  intro o i
  cases b <;> first | rfl | cases h
theorem isTrue_ok {e : Expr} {env : Env} (h : plainT e = true) : ∀ whole, isTrue e env whole = (do let v ← whole; standAt e.pos; holding [v] (truthy v)) := by
  intro whole
  cases e with
  | UnaryOp op x p => cases op <;> first | rfl | cases h
  | BoolOp => cases h
  | IfExp => cases h
  | Compare => cases h
  | _ => rfl
theorem folded_ok {e : Expr} {env : Env} (h : noSet e = true) : ∀ x, foldedSetIterable e env x = pure x := by
  intro x
  cases e <;> first | rfl | cases h
theorem marks_ok {e : Expr} {op : CmpOp} (h : noSet e = true) : behindInMarks op e = false := by
  cases e <;> first | rfl | cases h
theorem vis_ok {sc : Scope} {x : Str} (h : visB sc x = true) : Vis sc x := by
  unfold visB at h
  split at h <;> first | exact .inl (by assumption) | exact .inr (.inl (by assumption)) | exact .inr (.inr (by assumption)) | cases h
theorem name_ok {x : Str} (h : nameOk x = true) : (x == ("__debug__" : Str)) = false ∧ (x == ("__classdict__" : Str)) = false ∧ x ≠ "__name__" := by
  unfold nameOk at h
  simp only [Bool.and_eq_true, Bool.not_eq_true'] at h
  exact ⟨h.1.1, h.1.2, fun e => by rw [e] at h; simp at h⟩
theorem meth_ok {o : Expr} {m : Str} {apos pos : Pos} {es : List Expr} {env : Env} (hb : baseOk o = true) (hs : es.all noStar = true) (hl : (apos.endLine == pos.line) = true) (hn : es.length < 29) :
    eval (.Call (.Attribute o m apos) es [] pos) env = (do
      let ov ← eval o env
      standAt apos.atName
      let (f, first) ← holding [ov] (getMethod ov m (do return (← importBound o env).getD true))
      callWith pos f first (backTo pos (starEach es env)) (backToKw pos (keywordEach [] env))) := by
  have hform : methodCallForm (es.length + ([] : List Keyword).length) (backTo pos (starEach es env)) (backToKw pos (keywordEach [] env)) = true := by
    unfold methodCallForm
    rw [backTo_all hs]
    simp [keywordEach, backToKw]
    omega
  show (do
    let ov ← attributeBase o m env (eval o env)
    standAt apos.atName
    methodCall o m apos pos env ov (es.length + ([] : List Keyword).length) (backTo pos (starEach es env)) (backToKw pos (keywordEach [] env))) = _
  rw [base_ok hb]
  unfold methodCall calleeOf methodCallPos
  rw [hform, hl]
  rfl
mutual
theorem sameD_eq : ∀ {a b : D}, sameD a b = true → a = b
  | .non, b, h => by cases b <;> first | rfl | cases h
  | .bl x, b, h => by cases b <;> first | (simp [sameD] at h; rw [h]) | cases h
  | .int x, b, h => by cases b <;> first | (simp [sameD] at h; rw [h]) | cases h
  | .str x, b, h => by cases b <;> first | (simp [sameD] at h; rw [h]) | cases h
  | .obj x, b, h => by cases b <;> first | (simp [sameD] at h; rw [h]) | cases h
  | .tup x, b, h => by cases b <;> first | (simp only [sameD] at h; rw [sameDs_eq h]) | cases h
  | .lst x, b, h => by cases b <;> first | (simp only [sameD] at h; rw [sameDs_eq h]) | cases h
theorem sameDs_eq : ∀ {a b : List D}, sameDs a b = true → a = b
  | [], b, h => by cases b <;> first | rfl | cases h
  | x :: xs, b, h => by
    cases b with
    | nil => cases h
    | cons y ys =>
      simp only [sameDs, Bool.and_eq_true] at h
      rw [sameD_eq h.1, sameDs_eq h.2]
end
end Ev

namespace Ev
open PySem PySem.Spec L2
open PyProof.Rows (IsTup)

def bltNames : List Str := ["len", "tuple", "sum", "range", "enumerate", "zip"]
def spC (A : Ad) (K : PySem.W.Frag) (c : Calls) (f np : Nat) : Sp := fun vs H Q _ => ∃ ρ S ds, RepS A K H ρ S ∧ RepDs K H ρ ds vs ∧ ds.length = np ∧ Post A K H ρ (c f ds S) Q
/-- TABLE[k], k a text -/
def rGD (a : Addr) (kvs : List (List Nat × List Nat)) : R2 := fun x y H Q => ∃ k z, x = .ref a ∧ y = .str ⟨k.toArray⟩ ∧ kvs.lookup k = some z ∧ Q (.str ⟨z.toArray⟩) H
/-- ROW.index(k), k a text -/
def rGT (a : Addr) (xs : List (List Nat)) : V → List V → Hp → VK → Prop := fun x ys H Q => ∃ k j, x = .ref a ∧ ys = [.str ⟨k.toArray⟩] ∧ firstIx (fun y => decide (y = k)) xs = some j ∧ Q (.int (j : Nat)) H
/-- what the top has written -/
structure Gd (G : Gc) (A : Ad) (fa : Nat → Addr) (fd : Nat → FuncData) (P : Program) (w : World) (K : PySem.W.Frag) (mg : Str → Option Value) : Prop where
  fnB : ∀ {f : Nat} {fi : FnI}, G.fns[f]? = some fi → Binds K (fd f) fi.ps [] ∧ PySem.W.keepIn K (.ref (fa f)) = true
  fnG : ∀ {f : Nat} {fi : FnI}, G.fns[f]? = some fi → fi.cl = none → mg fi.name = some (.ref (fa f))
  fnM : ∀ {f : Nat} {fi : FnI} {C : Nat}, G.fns[f]? = some fi → fi.cl = some C → fi.name ≠ "__init__" → Meth K (A.cl C) fi.name (fa f) ∧ fi.name ∉ A.attrs
  fnI : ∀ {f : Nat} {fi : FnI} {C : Nat}, G.fns[f]? = some fi → fi.cl = some C → fi.name = "__init__" → Mk K (A.cl C) (fa f)
  cls : ∀ {C : Nat} {x : Str}, G.cls[C]? = some x → Cls K (A.cl C) ∧ mg x = some (.ref (A.cl C)) ∧ ∀ y ∈ A.attrs, NoAttr K (A.cl C) y
  attrs : A.attrs = G.attrs
  nd : A.attrs.Nodup
  blt : ∀ x ∈ bltNames, mg x = none
  glob : ∀ {x : Str} {d : D}, (x, d) ∈ G.globs → ∃ u v, mg x = some u ∧ RelV v u ∧ ∀ H ρ, RepD K H ρ d v
  gdict : ∀ {x : Str} {kvs : List (List Nat × List Nat)}, (x, kvs) ∈ G.gdicts → ∃ a, mg x = some (.ref a) ∧ ∀ X : Cx, X.K = K → X.prog = P → X.w = w → IxR X (rGD a kvs)
  gtup : ∀ {x : Str} {xs : List (List Nat)}, (x, xs) ∈ G.gtups → ∃ a, mg x = some (.ref a) ∧ (∃ o, K.lookup a = some o ∧ o.cls = .type "tuple" ∧ o.dict = none) ∧ ∀ X : Cx, X.K = K → X.prog = P → X.w = w → MtR X "tuple.index" (rGT a xs)
structure Cq (G : Gc) (A : Ad) (fa : Nat → Addr) (fd : Nat → FuncData) (c : Calls) (k : Nat) (N : List Str) (sc : Scope) (X : Cx) : Prop where
  gd : Gd G A fa fd X.prog X.w X.K X.mg
  calls : ∀ {f : Nat} {fi : FnI}, G.fns[f]? = some fi → FnOk X.prog X.w X.K X.mg X.base CX0 k (fa f) (fd f) fi.ps (spC A X.K c f fi.ps.length)
  calm : X.calm = true
  room : Room (k + 1) X.A
  ar : ∀ {f : Nat} {fi : FnI} {ds : List D} {S S' : Sto} {d : D}, G.fns[f]? = some fi → c f ds S = .ok d S' → ds.length = fi.ps.length
  eN : X.N = N
  eS : X.env.scope = sc
  nd : N.Nodup
section
variable {G : Gc} {A : Ad} {fa : Nat → Addr} {fd : Nat → FuncData} {c : Calls} {k : Nat} {N : List Str} {sc : Scope} {X : Cx}
theorem Cq.gl (C : Cq G A fa fd c k N sc X) {x : Str} (h : glB sc x = true) : Gl X x := by
  show X.env.scope.names.lookup x = _
  rw [C.eS]
  exact of_decide_eq_true h
theorem Cq.hu (C : Cq G A fa fd c k N sc X) : X.A.units + 64 < cLine := C.room.units
theorem Cq.blk (C : Cq G A fa fd c k N sc X) (s : Shared) (H : Hp) (scope : Scope) (D : Addr) (cl : List (Str × Addr)) (fp : List Addr) : Cq G A fa fd c k N (relS scope sc) (X.blk s H scope (compEnvC scope cl D X.env) fp) := by
  refine ⟨C.gd, C.calls, C.calm, C.room, C.ar, C.eN, ?_, C.nd⟩
  show (compEnvC scope cl D X.env).scope = _
  rw [← C.eS]
  rfl
theorem fnB_ok {f : Nat} {x : Str} {cl : Option Nat} (h : fnB G f x cl = true) : ∃ fi, G.fns[f]? = some fi ∧ fi.name = x ∧ fi.cl = cl := by
  unfold fnB at h
  split at h
  · rename_i fi e
    rw [Bool.and_eq_true] at h
    exact ⟨fi, e, of_decide_eq_true h.1, of_decide_eq_true h.2⟩
  · cases h
theorem chkA_star : ∀ {as : As} {es : List Expr}, chkA G N sc as es = true → es.all noStar = true
  | .nil, [], _ => rfl
  | .nil, _ :: _, h => by cases h
  | .cons p r, [], h => by cases h
  | .cons p r, e :: es, h => by
    simp only [chkA, Bool.and_eq_true] at h
    rw [List.all_cons, h.1.1, chkA_star h.2]
    rfl
end

/-! ### readings of the parts -/
section
variable {A : Ad} {K : PySem.W.Frag} {c : Calls} {σ : L2.St} {H : Hp}
theorem tE_two {p a b : Ex} {f : D → D → Sto → Res D} (hev : ∀ env S, evE c p env S = (evE c a env S).bind fun x S => (evE c b env S).bind fun y S => f x y S) {Q : VK} (h : tE A K c p σ H Q) : tOp (rV2 A K f) (tE A K c a) (tE A K c b) σ H Q := by
  obtain ⟨ρ, S, env, hs, d, S', h, q⟩ := h
  rw [hev] at h
  obtain ⟨x, S1, h1, h⟩ := Res.bind_ok h
  obtain ⟨y, S2, h2, h⟩ := Res.bind_ok h
  exact ⟨ρ, S, env, hs, x, S1, h1, fun v H1 ρ1 e1 rs1 rd1 => ⟨ρ1, S1, env, hs.ext e1 rs1, y, S2, h2, fun u H2 ρ2 e2 rs2 rd2 =>
    ⟨ρ2, S2, x, y, rs2, rd1.ext e2, rd2, d, S', h, fun w H' ρ' e3 rs3 rd3 => q w H' ρ' ((e1.trans e2).trans e3) rs3 rd3⟩⟩⟩
theorem tE_imp {p q : Ex} {Q : VK} (hev : ∀ env S, evE c p env S = evE c q env S) (h : tE A K c p σ H Q) : tE A K c q σ H Q := by
  obtain ⟨ρ, S, env, hs, h⟩ := h
  exact ⟨ρ, S, env, hs, by rw [← hev]; exact h⟩
end
section
variable {G : Gc} {A : Ad} {fa : Nat → Addr} {fd : Nat → FuncData} {c : Calls} {k : Nat} {N : List Str} {sc : Scope} {X : Cx}
theorem s_var (C : Cq G A fa fd c k N sc X) {i : Nat} {e : Expr} (h : chkE G N sc (.var i) e = true) : PE X e (tE A X.K c (.var i)) := by
  unfold chkE at h
  split at h
  · simp only [Bool.and_eq_true] at h
    obtain ⟨⟨h1, h2⟩, h3⟩ := h
    obtain ⟨n1, n2, _⟩ := name_ok h3
    refine impE (pe_var (i := i) (by rw [C.eN]; exact of_decide_eq_true h1) (by rw [C.eS]; exact vis_ok h2) n1 n2) fun σ H Q h => ?_
    obtain ⟨ρ, S, env, hs, d, S', h, q⟩ := h
    have h : (match env[i]? with | some (some d) => Res.ok d S | _ => .bad) = .ok d S' := h
    split at h
    · rename_i d' e
      cases h
      obtain ⟨v, e1, e2⟩ := hs.re.at_ e
      exact ⟨v, e1, q v H ρ .refl hs.rs e2⟩
    · cases h
  · cases h
theorem s_cst {d : D} {e : Expr} (h : chkE G N sc (.cst d) e = true) : PE X e (tE A X.K c (.cst d)) := by
  unfold chkE at h
  split at h
  · have go : ∀ v, (∀ H ρ, RepD X.K H ρ d v) → ∀ σ H Q, tE A X.K c (.cst d) σ H Q → tC v σ H Q := fun v hv σ H Q h => by
      obtain ⟨ρ, S, env, hs, d', S', h, q⟩ := h
      cases h
      exact q v H ρ .refl hs.rs (hv H ρ)
    unfold cstB at h
    split at h
    · exact impE pe_non (go _ fun _ _ => rfl)
    · simp only [beq_iff_eq] at h; subst h; exact impE pe_bl (go _ fun _ _ => rfl)
    · simp only [beq_iff_eq] at h; subst h; exact impE pe_int (go _ fun _ _ => rfl)
    · have h := of_decide_eq_true h; subst h; exact impE pe_str (go _ fun _ _ => rfl)
    · cases h
  · cases h
theorem s_glob (C : Cq G A fa fd c k N sc X) {x : Str} {d : D} {e : Expr} (h : chkE G N sc (.glob x d) e = true) : PE X e (tE A X.K c (.glob x d)) := by
  unfold chkE at h
  split at h
  · simp only [Bool.and_eq_true] at h
    obtain ⟨⟨⟨h1, h2⟩, h3⟩, h4⟩ := h
    have h1 := of_decide_eq_true h1
    subst h1
    obtain ⟨p, hp, h4⟩ := List.any_eq_true.mp h4
    rw [Bool.and_eq_true] at h4
    have e1 := of_decide_eq_true h4.1
    have e2 := sameD_eq h4.2
    obtain ⟨n1, n2, _⟩ := name_ok h3
    obtain ⟨u, v, g1, g2, g3⟩ := C.gd.glob (x := p.1) (d := p.2) hp
    rw [e1] at g1
    refine impE (pe_glob (C.gl h2) g1 g2 n1) fun σ H Q h => ?_
    obtain ⟨ρ, S, env, hs, d', S', h, q⟩ := h
    cases h
    exact q v H ρ .refl hs.rs (e2 ▸ g3 H ρ)
  · cases h
theorem s_newl {e : Expr} (h : chkE G N sc .newl e = true) : PE X e (tE A X.K c .newl) := by
  unfold chkE at h
  split at h
  · refine impE (pe_lst pa_nil) fun σ H Q h => ?_
    obtain ⟨ρ, S, env, hs, d, S', h, q⟩ := h
    cases h
    refine ⟨Nat.zero_le _, fun p hp => ?_⟩
    obtain ⟨q1, q2⟩ := hs.rs.push (H' := upd H p (.lst [])) (same_new hp) hp (o := .lst []) ⟨[], upd_same, rfl⟩
    exact q _ _ _ q2 q1 ⟨p, rfl, by rw [← hs.rs.len]; simp⟩
  · cases h
theorem s_newd {e : Expr} (h : chkE G N sc .newd e = true) : PE X e (tE A X.K c .newd) := by
  unfold chkE at h
  split at h
  · refine impE pe_dnewT fun σ H Q h => ?_
    obtain ⟨ρ, S, env, hs, d, S', h, q⟩ := h
    cases h
    intro p hp
    obtain ⟨q1, q2⟩ := hs.rs.push (H' := upd H p (.dT [])) (same_new hp) hp (o := .dct []) ⟨[], upd_same, .nil⟩
    exact q _ _ _ q2 q1 ⟨p, rfl, by rw [← hs.rs.len]; simp⟩
  · cases h
theorem o_bin (o : Op) {op : Operator} (h : binB o op = true) : OpR X (binaryOp op) (rV2 A X.K (binD o)) := by
  unfold binB at h
  split at h
  · exact v_add
  · exact v_sub
  · exact v_mul
  · exact v_fdiv
  · exact v_mod
  · cases h
theorem o_cmp (hu : X.A.units + 64 < cLine) (o : Op) {op : CmpOp} (h : cmpB o op = true) : OpR X (compareOp op) (rV2 A X.K (cmpD o)) := by
  unfold cmpB at h
  split at h
  · exact v_eq hu
  · exact v_ne hu
  · exact v_cmpI op_lt
  · exact v_cmpI op_le
  · exact v_cmpI op_gt
  · exact v_cmpI op_ge
  · exact v_in
  · exact v_notin
  · exact v_is
  · exact v_isnot
  · cases h
theorem cmpD_bl {o : Op} {x y : D} {S S' : Sto} {d : D} (h : cmpD o x y S = .ok d S') : ∃ b, d = .bl b := by
  have okb : ∀ {c b}, okV c (D.bl b) S = .ok d S' → ∃ b, d = .bl b := fun {c b} h => by
    unfold okV at h
    split at h
    · cases h; exact ⟨_, rfl⟩
    · cases h
  have cmi : ∀ {p}, cmpI p x y S = .ok d S' → ∃ b, d = .bl b := fun {p} h => by
    unfold cmpI at h
    split at h
    · cases h; exact ⟨_, rfl⟩
    · cases h
  cases o <;> first | exact okb h | exact cmi h | skip
  all_goals
    first
    | (have h : Res.bad = Res.ok d S' := h; cases h; done)
    | (have h : (match isinD x y with | some k => Res.ok (D.bl k) S | none => .bad) = .ok d S' := h
       split at h
       · cases h; exact ⟨_, rfl⟩
       · cases h)
    | (have h : (match isinD x y with | some k => Res.ok (D.bl (!k)) S | none => .bad) = .ok d S' := h
       split at h
       · cases h; exact ⟨_, rfl⟩
       · cases h)
end
end Ev

namespace Ev
open PySem PySem.Spec L2
open PyProof.Rows (IsTup)
section
variable {G : Gc} {A : Ad} {fa : Nat → Addr} {fd : Nat → FuncData} {c : Calls} {k : Nat} {N : List Str} {sc : Scope} {X : Cx}
theorem okV_ok {α : Type} {b : Bool} {a a' : α} {S S' : Sto} (h : okV b a S = .ok a' S') : b = true ∧ a = a' ∧ S = S' := by
  unfold okV at h
  split at h
  · cases h; exact ⟨by assumption, rfl, rfl⟩
  · cases h
theorem s_anil : PA X [] (tA A X.K c .nil) := impA pa_nil fun σ H Q h => by
  obtain ⟨ρ, S, env, ds, S', hs, h, q⟩ := h
  cases h
  exact q [] H ρ .refl hs.rs rfl
theorem s_acons {p : Ex} {r : As} {e : Expr} {es : List Expr} (he : PE X e (tE A X.K c p)) (hr : PA X es (tA A X.K c r)) (hn : noStar e = true) : PA X (e :: es) (tA A X.K c (.cons p r)) := impA (pa_cons he hr (starEach_cons hn)) fun σ H Q h => by
  obtain ⟨ρ, S, env, ds, S', hs, h, q⟩ := h
  rw [evA] at h
  obtain ⟨d, S1, h1, h⟩ := Res.bind_ok h
  obtain ⟨ds', S2, h2, h⟩ := Res.bind_ok h
  cases h
  exact ⟨ρ, S, env, hs, d, _, h1, fun v H1 ρ1 e1 rs1 rd1 => ⟨ρ1, _, env, ds', _, hs.ext e1 rs1, h2, fun vs H2 ρ2 e2 rs2 rd2 => q (v :: vs) H2 ρ2 (e1.trans e2) rs2 ⟨v, vs, rfl, rd1.ext e2, rd2⟩⟩⟩
theorem s_tup {as : As} {es : List Expr} {x1 : Nat} {pos : Pos} (h : PA X es (tA A X.K c as)) : PE X (.Tuple es x1 pos) (tE A X.K c (.tup as)) := impE (pe_tup h) fun σ H Q h => by
  obtain ⟨ρ, S, env, hs, d, S', h, q⟩ := h
  rw [evE] at h
  obtain ⟨ds, S1, h1, h⟩ := Res.bind_ok h
  obtain ⟨hc, rfl, rfl⟩ := okV_ok h
  refine ⟨ρ, S, env, ds, _, hs, h1, fun vs H1 ρ1 e1 rs1 rd1 => ⟨?_, fun p hp => ?_⟩⟩
  · rw [rd1.length, line_eq]; exact of_decide_eq_true hc
  · obtain ⟨q1, q2, q3⟩ := rs1.newT rd1 hp
    exact q _ _ _ (e1.trans q2) q1 q3
theorem s_lst {as : As} {es : List Expr} {pos : Pos} (h : PA X es (tA A X.K c as)) : PE X (.List es pos) (tE A X.K c (.lst as)) := impE (pe_lst h) fun σ H Q h => by
  obtain ⟨ρ, S, env, hs, d, S', h, q⟩ := h
  rw [evE] at h
  obtain ⟨ds, S1, h1, h⟩ := Res.bind_ok h
  obtain ⟨hc, rfl, rfl⟩ := okV_ok h
  refine ⟨ρ, S, env, ds, _, hs, h1, fun vs H1 ρ1 e1 rs1 rd1 => ⟨?_, fun p hp => ?_⟩⟩
  · rw [rd1.length, line_eq]; exact of_decide_eq_true hc
  · obtain ⟨q1, q2, q3⟩ := rs1.newL rd1 hp
    exact q _ _ _ (e1.trans q2) q1 q3
theorem s_bin {o : Op} {a b : Ex} {l r : Expr} {op : Operator} {pos : Pos} (ho : binB o op = true) (ha : PE X l (tE A X.K c a)) (hb : PE X r (tE A X.K c b)) : PE X (.BinOp l op r pos) (tE A X.K c (.bin o a b)) :=
  impE (pe_op (o_bin o ho) ha hb) fun σ H Q h => tE_two (fun _ _ => rfl) h
theorem s_cmp (hu : X.A.units + 64 < cLine) {o : Op} {a b : Ex} {l r : Expr} {op : CmpOp} {pos : Pos} (ho : cmpB o op = true) (hn : noSet r = true) (ha : PE X l (tE A X.K c a)) (hb : PE X r (tE A X.K c b)) : PE X (.Compare l [op] [r] pos) (tE A X.K c (.cmp o a b)) :=
  impE (pe_cmpR (o_cmp hu o ho) ha hb (marks_ok hn)) fun σ H Q h => tE_two (fun _ _ => rfl) h
theorem t_cmp (hu : X.A.units + 64 < cLine) {o : Op} {a b : Ex} {l r : Expr} {op : CmpOp} {pos : Pos} (ho : cmpB o op = true) (hn : noSet r = true) (ha : PE X l (tE A X.K c a)) (hb : PE X r (tE A X.K c b)) : PT X (.Compare l [op] [r] pos) (tT A X.K c (.cmp o a b)) :=
  impT (pt_cmpR (o_cmp hu o ho) ha hb (marks_ok hn)) fun σ H Q h => by
    obtain ⟨ρ, S, env, b', S', hs, h, q⟩ := h
    rw [evT] at h
    obtain ⟨x, S1, h1, h2⟩ := Res.bind_ok h
    obtain ⟨y, S2, h3, h4⟩ := Res.bind_ok h2
    obtain ⟨d, S3, h5, h6⟩ := Res.bind_ok h4
    have h7 : evE c (.cmp o a b) env S = .ok d S3 := by
      rw [evE, h1]
      show (evE c b env S1).bind _ = _
      rw [h3]
      exact h5
    refine tE_two (p := .cmp o a b) (fun _ _ => rfl) ⟨ρ, S, env, hs, d, S3, h7, fun v H' ρ' e1 rs1 rd1 => ?_⟩
    obtain ⟨z, rfl⟩ := cmpD_bl h5
    cases rd1
    cases h6
    exact ⟨_, rfl, q H' ρ' e1 rs1⟩
theorem s_and {a b : Ex} {l r : Expr} {rest : List Expr} {pos : Pos} (ha : PE X l (tE A X.K c a)) (hb : PE X (.BoolOp .And (r :: rest) pos) (tE A X.K c b)) : PE X (.BoolOp .And (l :: r :: rest) pos) (tE A X.K c (.and a b)) := impE (pe_and ha hb) fun σ H Q h => by
  obtain ⟨ρ, S, env, hs, d, S', h, q⟩ := h
  rw [evE] at h
  obtain ⟨x, S1, h1, h⟩ := Res.bind_ok h
  refine ⟨ρ, S, env, hs, x, S1, h1, fun v H1 ρ1 e1 rs1 rd1 => ?_⟩
  split at h
  · cases rd1
    exact ⟨true, rfl, by rw [if_pos rfl]; exact ⟨ρ1, S1, env, hs.ext e1 rs1, d, S', h, fun w H' ρ' e2 rs2 rd2 => q w H' ρ' (e1.trans e2) rs2 rd2⟩⟩
  · cases rd1
    cases h
    exact ⟨false, rfl, by rw [if_neg Bool.false_ne_true]; exact q _ H1 ρ1 e1 rs1 rfl⟩
  · cases h
theorem s_or {a b : Ex} {l r : Expr} {rest : List Expr} {pos : Pos} (ha : PE X l (tE A X.K c a)) (hb : PE X (.BoolOp .Or (r :: rest) pos) (tE A X.K c b)) : PE X (.BoolOp .Or (l :: r :: rest) pos) (tE A X.K c (.or a b)) := impE (pe_or ha hb) fun σ H Q h => by
  obtain ⟨ρ, S, env, hs, d, S', h, q⟩ := h
  rw [evE] at h
  obtain ⟨x, S1, h1, h⟩ := Res.bind_ok h
  refine ⟨ρ, S, env, hs, x, S1, h1, fun v H1 ρ1 e1 rs1 rd1 => ?_⟩
  split at h
  · cases rd1
    exact ⟨false, rfl, by rw [if_neg Bool.false_ne_true]; exact ⟨ρ1, S1, env, hs.ext e1 rs1, d, S', h, fun w H' ρ' e2 rs2 rd2 => q w H' ρ' (e1.trans e2) rs2 rd2⟩⟩
  · cases rd1
    cases h
    exact ⟨true, rfl, by rw [if_pos rfl]; exact q _ H1 ρ1 e1 rs1 rfl⟩
  · cases h
theorem s_not {a : Ex} {l : Expr} {pos : Pos} (ha : PE X l (tE A X.K c a)) : PE X (.UnaryOp .Not l pos) (tE A X.K c (.not a)) := impE (pe_not ha) fun σ H Q h => by
  obtain ⟨ρ, S, env, hs, d, S', h, q⟩ := h
  rw [evE] at h
  obtain ⟨x, S1, h1, h⟩ := Res.bind_ok h
  refine ⟨ρ, S, env, hs, x, S1, h1, fun v H1 ρ1 e1 rs1 rd1 => ?_⟩
  split at h
  · cases rd1
    cases h
    exact ⟨_, rfl, q _ H1 ρ1 e1 rs1 rfl⟩
  · cases h
theorem s_neg {a : Ex} {l : Expr} {pos : Pos} (ha : PE X l (tE A X.K c a)) : PE X (.UnaryOp .USub l pos) (tE A X.K c (.neg a)) := impE (pe_un un_neg ha) fun σ H Q h => by
  obtain ⟨ρ, S, env, hs, d, S', h, q⟩ := h
  rw [evE] at h
  obtain ⟨x, S1, h1, h⟩ := Res.bind_ok h
  refine ⟨ρ, S, env, hs, x, S1, h1, fun v H1 ρ1 e1 rs1 rd1 => ?_⟩
  split at h
  · cases rd1
    cases h
    exact ⟨_, rfl, q _ H1 ρ1 e1 rs1 rfl⟩
  · cases h
theorem s_ite {t : Ts} {a b : Ex} {x l r : Expr} {pos : Pos} (ht : PT X x (tT A X.K c t)) (ha : PE X l (tE A X.K c a)) (hb : PE X r (tE A X.K c b)) : PE X (.IfExp x l r pos) (tE A X.K c (.ite t a b)) := impE (pe_ifExp ht ha hb) fun σ H Q h => by
  obtain ⟨ρ, S, env, hs, d, S', h, q⟩ := h
  rw [evE] at h
  obtain ⟨x, S1, h1, h⟩ := Res.bind_ok h
  refine ⟨ρ, S, env, x, S1, hs, h1, fun H1 ρ1 e1 rs1 => ?_⟩
  cases x with
  | true =>
    rw [if_pos rfl] at h ⊢
    exact ⟨ρ1, S1, env, hs.ext e1 rs1, d, S', h, fun w H' ρ' e2 rs2 rd2 => q w H' ρ' (e1.trans e2) rs2 rd2⟩
  | false =>
    rw [if_neg Bool.false_ne_true] at h ⊢
    exact ⟨ρ1, S1, env, hs.ext e1 rs1, d, S', h, fun w H' ρ' e2 rs2 rd2 => q w H' ρ' (e1.trans e2) rs2 rd2⟩
theorem s_idx {a b : Ex} {l r : Expr} {pos : Pos} (hn : noSlice r = true) (ha : PE X l (tE A X.K c a)) (hb : PE X r (tE A X.K c b)) : PE X (.Subscript l r pos) (tE A X.K c (.idx a b)) :=
  impE (pe_ix v_idx ha hb (slice_ok hn)) fun σ H Q h => tE_two (fun _ _ => rfl) h
theorem s_pnone : PO X none (tP A X.K c .none) := fun pins s σ H Q I h => by
  obtain ⟨ρ, S, env, k', S', hs, h, q⟩ := h
  cases h
  exact po_none pins s σ H Q I (q H ρ .refl hs.rs)
theorem s_psome {p : Ex} {e : Expr} (he : PE X e (tE A X.K c p)) : PO X (some e) (tP A X.K c (.some p)) := fun pins s σ H Q I h => by
  refine po_some he pins s σ H Q I ?_
  obtain ⟨ρ, S, env, k', S', hs, h, q⟩ := h
  rw [evP] at h
  obtain ⟨x, S1, h1, h⟩ := Res.bind_ok h
  refine ⟨ρ, S, env, hs, x, S1, h1, fun v H1 ρ1 e1 rs1 rd1 => ?_⟩
  split at h
  · cases rd1
    cases h
    exact ⟨_, rfl, q H1 ρ1 e1 rs1⟩
  · cases h
theorem s_sl {a : Ex} {lo hi : Pa} {l : Expr} {lo' hi' : Option Expr} {p2 pos : Pos} (ha : PE X l (tE A X.K c a)) (h1 : PO X lo' (tP A X.K c lo)) (h2 : PO X hi' (tP A X.K c hi)) : PE X (.Subscript l (.Slice lo' hi' none p2) pos) (tE A X.K c (.sl a lo hi)) :=
  impE (pe_slice v_sl ha h1 h2) fun σ H Q h => by
    obtain ⟨ρ, S, env, hs, d, S', h, q⟩ := h
    rw [evE] at h
    obtain ⟨x, S1, g1, h⟩ := Res.bind_ok h
    obtain ⟨y, S2, g2, h⟩ := Res.bind_ok h
    obtain ⟨z, S3, g3, h⟩ := Res.bind_ok h
    exact ⟨ρ, S, env, hs, x, S1, g1, fun v H1 ρ1 e1 rs1 rd1 => ⟨ρ1, S1, env, y, S2, hs.ext e1 rs1, g2, fun H2 ρ2 e2 rs2 => ⟨ρ2, S2, env, z, S3, hs.ext (e1.trans e2) rs2, g3, fun H3 ρ3 e3 rs3 =>
      ⟨ρ3, S3, x, rs3, (rd1.ext e2).ext e3, d, S', h, fun w H' ρ' e4 rs4 rd4 => q w H' ρ' (((e1.trans e2).trans e3).trans e4) rs4 rd4⟩⟩⟩⟩
theorem s_gdict (C : Cq G A fa fd c k N sc X) {x : Str} {kvs : List (List Nat × List Nat)} {p : Ex} {r : Expr} {np pos : Pos} (hn : noSlice r = true) (hg : glB sc x = true) (ho : nameOk x = true) (hm : (G.gdicts.any fun q => decide (q.1 = x) && decide (q.2 = kvs)) = true) (hr : PE X r (tE A X.K c p)) :
    PE X (.Subscript (.Name x np) r pos) (tE A X.K c (.gdict x kvs p)) := by
  obtain ⟨q, hq, hm⟩ := List.any_eq_true.mp hm
  rw [Bool.and_eq_true] at hm
  have e1 := of_decide_eq_true hm.1
  have e2 := of_decide_eq_true hm.2
  obtain ⟨a, g1, g2⟩ := C.gd.gdict (x := q.1) (kvs := q.2) hq
  rw [e1] at g1
  rw [e2] at g2
  obtain ⟨n1, n2, _⟩ := name_ok ho
  refine impE (pe_ix (g2 X rfl rfl rfl) (pe_glob (v := .ref a) (C.gl hg) g1 rfl n1) hr (slice_ok hn)) fun σ H Q h => ?_
  obtain ⟨ρ, S, env, hs, d, S', h, q⟩ := h
  rw [evE] at h
  obtain ⟨y, S1, h1, h⟩ := Res.bind_ok h
  refine ⟨ρ, S, env, hs, y, S1, h1, fun v H1 ρ1 f1 rs1 rd1 => ?_⟩
  split at h
  · split at h
    · rename_i z hz
      cases rd1
      cases h
      exact ⟨_, z, rfl, rfl, hz, q _ H1 ρ1 f1 rs1 rfl⟩
    · cases h
  · cases h
theorem s_gtix (C : Cq G A fa fd c k N sc X) {x : Str} {xs : List (List Nat)} {p : Ex} {r : Expr} {np apos cpos : Pos} (hl : (apos.endLine == cpos.line) = true) (hn : noStar r = true) (hg : glB sc x = true) (ho : nameOk x = true) (hm : (G.gtups.any fun q => decide (q.1 = x) && decide (q.2 = xs)) = true) (hr : PE X r (tE A X.K c p)) :
    PE X (.Call (.Attribute (.Name x np) "index" apos) [r] [] cpos) (tE A X.K c (.gtix x xs p)) := by
  obtain ⟨q, hq, hm⟩ := List.any_eq_true.mp hm
  rw [Bool.and_eq_true] at hm
  have e1 := of_decide_eq_true hm.1
  have e2 := of_decide_eq_true hm.2
  obtain ⟨a, g1, g3, g2⟩ := C.gd.gtup (x := q.1) (xs := q.2) hq
  rw [e1] at g1
  rw [e2] at g2
  obtain ⟨n1, n2, _⟩ := name_ok ho
  have hst : ([r] : List Expr).all noStar = true := by rw [List.all_cons, hn]; rfl
  refine impE (pe_bm PySem.F.plainAttrs_tuple PySem.F.slot_tuple_index PySem.F.type_tuple_index (g2 X rfl rfl rfl) (pe_glob (v := .ref a) (C.gl hg) g1 rfl n1) (pa_cons hr pa_nil (starEach_cons hn)) (base_ok rfl) ?_ hl (starEach_cons hn) rfl) fun σ H Q h => ?_
  · rw [backTo_all hst]; rfl
  · obtain ⟨ρ, S, env, hs, d, S', h, q⟩ := h
    rw [evE] at h
    obtain ⟨y, S1, h1, h⟩ := Res.bind_ok h
    refine ⟨.inr (.inl ⟨rfl, g3⟩), ρ, S, env, hs, y, S1, h1, fun v H1 ρ1 f1 rs1 rd1 => ?_⟩
    split at h
    · split at h
      · rename_i z hz
        cases rd1
        cases h
        exact ⟨_, z, rfl, rfl, hz, q _ H1 ρ1 f1 rs1 rfl⟩
      · cases h
    · cases h
/-! ### calls -/
theorem s_call (C : Cq G A fa fd c k N sc X) {f : Nat} {as : As} {y : Str} {es : List Expr} {np pos : Pos} (hf : fnB G f y none = true) (hg : glB sc y = true) (ho : nameOk y = true) (hs : es.all noStar = true) (hz : es = [] → as = .nil) (ha : PA X es (tA A X.K c as)) :
    PE X (.Call (.Name y np) es [] pos) (tE A X.K c (.call f as)) := by
  obtain ⟨fi, e1, e2, e3⟩ := fnB_ok hf
  obtain ⟨b1, b2⟩ := C.gd.fnB e1
  have g := C.gd.fnG e1 e3
  rw [e2] at g
  obtain ⟨n1, n2, _⟩ := name_ok ho
  have key : ∀ σ H Q, tE A X.K c (.call f as) σ H Q → tCall (spC A X.K c f fi.ps.length) [] E0 (tA A X.K c as) σ H Q := fun σ H Q h => by
    obtain ⟨ρ, S, env, hs, d, S', h, q⟩ := h
    rw [evE] at h
    obtain ⟨ds, S1, h1, h⟩ := Res.bind_ok h
    exact ⟨ρ, S, env, ds, S1, hs, h1, fun vs H1 ρ1 f1 rs1 rd1 => ⟨ρ1, S1, ds, rs1, by rw [List.append_nil]; exact rd1, C.ar e1 h, d, S', h, fun w H' ρ' f2 rs2 rd2 => q w H' ρ' (f1.trans f2) rs2 rd2⟩⟩
  cases es with
  | nil =>
    refine impE (pe_call0 (C.calls e1) (C.room.mono (Nat.le_succ _)) (C.gl hg) g b2 b1 .nil pass0 n1) fun σ H Q h => ?_
    have h := key σ H Q h
    obtain ⟨ρ, S, env, ds, S', hs', h1, h⟩ := h
    -- an empty argument list
    cases hz rfl
    cases h1
    exact h [] H ρ .refl hs'.rs rfl
  | cons e es =>
    have hs' := hs
    rw [List.all_cons, Bool.and_eq_true] at hs'
    exact impE (pe_call (C.calls e1) (C.room.mono (Nat.le_succ _)) (C.gl hg) g b2 b1 .nil pass0 ha n1 (starEach_cons hs'.1) (backTo_plain hs'.2)) key
end
end Ev

namespace Ev
open PySem PySem.Spec L2
open PyProof.Rows (IsTup)
section
variable {A : Ad} {K : PySem.W.Frag} {H : Hp} {ρ : Lc}
theorem repF_in : ∀ {fs : List (Nat × D)} {us : List (Str × V)}, RepF A K H ρ fs us → ∀ {m : Str} {v : V}, us.lookup m = some v → m ∈ A.attrs
  | _, _, .nil, _, _, e => by cases e
  | p :: fs, q :: us, .cons h t, m, v, e => by
    rw [show (q :: us) = ((q.1, q.2) :: us) from rfl, List.lookup_cons] at e
    by_cases z : (m == q.1) = true
    · have z := eq_of_beq z
      rw [z]
      exact List.mem_of_getElem? h.1
    · simp only [z] at e
      exact repF_in t e
theorem repF_none {fs : List (Nat × D)} {us : List (Str × V)} (r : RepF A K H ρ fs us) {m : Str} (h : m ∉ A.attrs) : us.lookup m = none := by
  cases e : us.lookup m with
  | none => rfl
  | some v => exact absurd (repF_in r e) h
theorem repF_some (nd : A.attrs.Nodup) : ∀ {fs : List (Nat × D)} {us : List (Str × V)}, RepF A K H ρ fs us → ∀ {f : Nat} {x : Str} {d : D}, A.attrs[f]? = some x → fs.lookup f = some d → ∃ v, us.lookup x = some v ∧ RepD K H ρ d v
  | _, _, .nil, _, _, _, _, e => by cases e
  | p :: fs, q :: us, .cons h t, f, x, d, hx, e => by
    rw [show (p :: fs) = ((p.1, p.2) :: fs) from rfl, List.lookup_cons] at e
    rw [show (q :: us) = ((q.1, q.2) :: us) from rfl, List.lookup_cons]
    by_cases z : f = p.1
    · subst z
      rw [h.1] at hx
      cases hx
      simp only [beq_self_eq_true] at e ⊢
      cases e
      exact ⟨_, rfl, h.2⟩
    · have z' : (f == p.1) = false := beq_eq_false_iff_ne.mpr z
      have z2 : (x == q.1) = false := beq_eq_false_iff_ne.mpr fun w => z (nd_ix nd hx (w ▸ h.1))
      simp only [z', z2] at e ⊢
      exact repF_some nd t hx e
theorem repF_put (nd : A.attrs.Nodup) {f : Nat} {x : Str} {d : D} {v : V} (hx : A.attrs[f]? = some x) (hd : RepD K H ρ d v) : ∀ {fs : List (Nat × D)} {us : List (Str × V)}, RepF A K H ρ fs us → RepF A K H ρ (putFD f d fs) (putF x v us)
  | _, _, .nil => .cons ⟨hx, hd⟩ .nil
  | (g, y) :: fs, (z, w) :: us, .cons h t => by
    unfold putFD putF
    by_cases e : g = f
    · subst e
      have e2 : z = x := Option.some.inj (h.1.symm.trans hx)
      rw [if_pos rfl, if_pos e2]
      exact .cons ⟨h.1, hd⟩ t
    · rw [if_neg e, if_neg fun (z' : z = x) => e (nd_ix nd h.1 (z' ▸ hx))]
      exact .cons h (repF_put nd hx hd t)
theorem repF_len {fs : List (Nat × D)} {us : List (Str × V)} (r : RepF A K H ρ fs us) : us.length = fs.length := by
  have := Paired.length r
  omega
end
section
variable {G : Gc} {A : Ad} {fa : Nat → Addr} {fd : Nat → FuncData} {c : Calls} {k : Nat} {N : List Str} {sc : Scope} {X : Cx}
theorem isLO_ok {d : D} {S : Sto} (h : isLO d S = true) : ∃ n xs, d = .obj n ∧ S[n]? = some (.lst xs) := by
  unfold isLO at h
  split at h
  · split at h
    · exact ⟨_, _, rfl, by assumption⟩
    · cases h
  · cases h
theorem isDO_ok {d : D} {S : Sto} (h : isDO d S = true) : ∃ n xs, d = .obj n ∧ S[n]? = some (.dct xs) := by
  unfold isDO at h
  split at h
  · split at h
    · exact ⟨_, _, rfl, by assumption⟩
    · cases h
  · cases h
theorem s_meth (C : Cq G A fa fd c k N sc X) {f Ci : Nat} {o : Ex} {as : As} {ob : Expr} {m : Str} {es : List Expr} {apos pos : Pos} (hf : fnB G f m (some Ci) = true) (hi : (!(m == "__init__")) = true) (hcl : Ci < G.cls.length) (hb : baseOk ob = true) (hl : (apos.endLine == pos.line) = true) (hlen : es.length < 29)
    (hs : es.all noStar = true) (hz : es = [] → as = .nil) (ho : PE X ob (tE A X.K c o)) (ha : PA X es (tA A X.K c as)) : PE X (.Call (.Attribute ob m apos) es [] pos) (tE A X.K c (.meth Ci f o as)) := by
  obtain ⟨fi, e1, e2, e3⟩ := fnB_ok hf
  obtain ⟨b1, b2⟩ := C.gd.fnB e1
  have hne : fi.name ≠ "__init__" := fun z => by rw [← e2, z] at hi; simp at hi
  obtain ⟨g1, g2⟩ := C.gd.fnM e1 e3 hne
  rw [e2] at g1 g2
  obtain ⟨cl, _, _⟩ := C.gd.cls (List.getElem?_eq_getElem hcl)
  have key : ∀ σ H Q, tE A X.K c (.meth Ci f o as) σ H Q → tMeth (A.cl Ci) m (spC A X.K c f fi.ps.length) [] E0 (tE A X.K c o) (tA A X.K c as) σ H Q := fun σ H Q h => by
    obtain ⟨ρ, S, env, hs, d, S', h, q⟩ := h
    rw [evE] at h
    obtain ⟨x, S1, h1, h'⟩ := Res.bind_ok h
    clear h
    refine ⟨ρ, S, env, hs, x, S1, h1, fun v H1 ρ1 f1 rs1 rd1 => ?_⟩
    split at h'
    · rename_i n
      split at h'
      · rename_i C' fs hn
        split at h'
        · rename_i hc
          subst hc
          obtain ⟨ds, S2, h2, h⟩ := Res.bind_ok h'
          obtain ⟨a, rfl, ea, dx, us, hH, rF⟩ := obj_at rs1 rd1 hn
          refine ⟨a, dx, us, rfl, hH, repF_none rF g2, ρ1, S1, env, ds, S2, hs.ext f1 rs1, h2, fun vs H2 ρ2 f2 rs2 rd2 => ?_⟩
          exact ⟨ρ2, S2, .obj n :: ds, rs2, ⟨.ref a, vs ++ [], rfl, ⟨a, rfl, f2.get ea⟩, by rw [List.append_nil]; exact rd2⟩, C.ar e1 h, d, S', h, fun w H' ρ' f3 rs3 rd3 => q w H' ρ' ((f1.trans f2).trans f3) rs3 rd3⟩
        · cases h'
      · cases h'
    · cases h'
  cases es with
  | nil =>
    refine impE (pe_meth0 ho cl g1 (C.calls e1) (C.room.mono (Nat.le_succ _)) b1 .nil pass0 (meth_ok hb hs hl (by decide))) fun σ H Q h => ?_
    obtain ⟨ρ, S, env, hs, d, S', h1, h⟩ := key σ H Q h
    refine ⟨ρ, S, env, hs, d, S', h1, fun v H' ρ' e rs rd => ?_⟩
    obtain ⟨a, dx, fs, x1, x2, x3, x4⟩ := h v H' ρ' e rs rd
    refine ⟨a, dx, fs, x1, x2, x3, ?_⟩
    cases hz rfl
    obtain ⟨ρ2, S2, env2, ds, S3, y1, y2, y3⟩ := x4
    cases y2
    exact y3 [] H' ρ2 .refl y1.rs rfl
  | cons e es =>
    have hs' := hs
    rw [List.all_cons, Bool.and_eq_true] at hs'
    exact impE (pe_meth ho cl g1 (C.calls e1) (C.room.mono (Nat.le_succ _)) b1 .nil pass0 ha (starEach_cons hs'.1) (backTo_plain hs'.2) (meth_ok hb hs hl hlen)) key
theorem s_make (C : Cq G A fa fd c k N sc X) {f Ci : Nat} {as : As} {y : Str} {es : List Expr} {np pos : Pos} (hf : fnB G f "__init__" (some Ci) = true) (hcl : G.cls[Ci]? = some y) (hg : glB sc y = true) (hno : nameOk y = true)
    (hs : es.all noStar = true) (hz : es = [] → as = .nil) (ha : PA X es (tA A X.K c as)) : PE X (.Call (.Name y np) es [] pos) (tE A X.K c (.make Ci f as)) := by
  obtain ⟨fi, e1, e2, e3⟩ := fnB_ok hf
  obtain ⟨b1, b2⟩ := C.gd.fnB e1
  have g1 := C.gd.fnI e1 e3 e2
  obtain ⟨_, hm, _⟩ := C.gd.cls hcl
  obtain ⟨n1, n2, _⟩ := name_ok hno
  have key : ∀ σ H Q, tE A X.K c (.make Ci f as) σ H Q → tMake (A.cl Ci) (spC A X.K c f fi.ps.length) [] E0 (tA A X.K c as) σ H Q := fun σ H Q h => by
    obtain ⟨ρ, S, env, hs, d, S', h, q⟩ := h
    rw [evE] at h
    obtain ⟨ds, S1, h1, h⟩ := Res.bind_ok h
    obtain ⟨r, S2, h2, h⟩ := Res.bind_ok h
    obtain ⟨hr, rfl, rfl⟩ := okV_ok h
    refine ⟨ρ, S, env, ds, S1, hs, h1, fun vs H1 ρ1 f1 rs1 rd1 x dx nx ndx nex => ?_⟩
    have sm : Same H1 (upd (upd H1 dx (.own x)) x (.ins (A.cl Ci) dx [])) := fun b o e => by
      rw [upd_ne (ne_of_none e nx), upd_ne (ne_of_none e ndx)]
      exact e
    obtain ⟨p1, p2⟩ := rs1.push sm nx (o := .ins Ci []) ⟨dx, [], upd_same, .nil⟩
    have eo : ({ o := ρ1.o ++ [x], p := ρ1.p } : Lc).o[S1.length]? = some x := by
      show (ρ1.o ++ [x])[S1.length]? = some x
      rw [← rs1.len]
      simp
    refine ⟨_, _, .obj S1.length :: ds, p1, ⟨.ref x, vs ++ [], rfl, ⟨x, rfl, eo⟩, by rw [List.append_nil]; exact rd1.ext p2⟩, C.ar e1 h2, r, S2, h2, fun w H' ρ' f3 rs3 rd3 => ⟨?_, ?_⟩⟩
    · cases r <;> first | exact rd3 | (cases hr)
    · exact q _ H' ρ' ((f1.trans p2).trans f3) rs3 ⟨x, rfl, f3.get eo⟩
  cases es with
  | nil =>
    refine impE (pe_make0 g1 (C.calls e1) C.room (C.gl hg) hm b1 .nil pass0 n1) fun σ H Q h => ?_
    obtain ⟨ρ, S, env, ds, S', hs', h1, h⟩ := key σ H Q h
    cases hz rfl
    cases h1
    exact h [] H ρ .refl hs'.rs rfl
  | cons e es =>
    have hs' := hs
    rw [List.all_cons, Bool.and_eq_true] at hs'
    exact impE (pe_make g1 (C.calls e1) C.room (C.gl hg) hm b1 .nil pass0 ha n1 (starEach_cons hs'.1) (backTo_plain hs'.2)) key
theorem s_fld (C : Cq G A fa fd c k N sc X) {f Ci : Nat} {o : Ex} {ob : Expr} {x : Str} {pos : Pos} (hx : G.attrs[f]? = some x) (hcl : Ci < G.cls.length) (hb : baseOk ob = true) (ho : PE X ob (tE A X.K c o)) : PE X (.Attribute ob x pos) (tE A X.K c (.fld Ci o f)) := by
  obtain ⟨cl, _, na⟩ := C.gd.cls (List.getElem?_eq_getElem hcl)
  have hx' : A.attrs[f]? = some x := by rw [C.gd.attrs]; exact hx
  refine impE (pe_fld ho (base_ok hb)) fun σ H Q h => ?_
  obtain ⟨ρ, S, env, hs, d, S', h, q⟩ := h
  rw [evE] at h
  obtain ⟨y, S1, h1, h'⟩ := Res.bind_ok h
  clear h
  revert h'
  intro h
  refine ⟨ρ, S, env, hs, y, S1, h1, fun v H1 ρ1 f1 rs1 rd1 => ?_⟩
  split at h
  · split at h
    · rename_i C' fs hn
      split at h
      · rename_i hc
        subst hc
        split at h
        · rename_i d' hd
          cases h
          obtain ⟨a, rfl, ea, dx, us, hH, rF⟩ := obj_at rs1 rd1 hn
          obtain ⟨w, l1, l2⟩ := repF_some C.gd.nd rF hx' hd
          exact ⟨a, A.cl C', dx, us, w, rfl, hH, cl, na x (List.mem_of_getElem? hx'), l1, q w H1 ρ1 f1 rs1 l2⟩
        · cases h
      · cases h
    · cases h
  · cases h
theorem tCB_of {as : As} {f : List D → Sto → Res D} {p : Ex} {σ : L2.St} {H : Hp} {Q : VK} (hev : ∀ env S, evE c p env S = (evA c as env S).bind fun ds S => f ds S) (h : tE A X.K c p σ H Q) : tCB (rVs A X.K f) (tA A X.K c as) σ H Q := by
  obtain ⟨ρ, S, env, hs, d, S', h, q⟩ := h
  rw [hev] at h
  obtain ⟨ds, S1, h1, h⟩ := Res.bind_ok h
  exact ⟨ρ, S, env, ds, S1, hs, h1, fun vs H1 ρ1 f1 rs1 rd1 => ⟨ρ1, S1, ds, rs1, rd1, d, S', h, fun w H' ρ' f2 rs2 rd2 => q w H' ρ' (f1.trans f2) rs2 rd2⟩⟩
theorem s_blt (C : Cq G A fa fd c k N sc X) {o : Op} {as : As} {y : Str} {e : Expr} {es : List Expr} {np pos : Pos} (ho : bltB o y = true) (hg : glB sc y = true) (hs : (e :: es).all noStar = true) (ha : PA X (e :: es) (tA A X.K c as)) : PE X (.Call (.Name y np) (e :: es) [] pos) (tE A X.K c (.blt o as)) := by
  have hs' := hs
  rw [List.all_cons, Bool.and_eq_true] at hs'
  unfold bltB at ho
  split at ho
  · have ho := of_decide_eq_true ho
    subst ho
    exact impE (pe_callB c_len (C.gl hg) (C.gd.blt _ (by decide)) (by decide +kernel) ha (by decide) (by decide) (starEach_cons hs'.1) (backTo_plain hs'.2)) fun σ H Q h => tCB_of (fun _ _ => rfl) h
  · have ho := of_decide_eq_true ho
    subst ho
    exact impE (pe_callTy c_tuple (C.gl hg) (C.gd.blt _ (by decide)) (by decide +kernel) ha (by decide) (by decide) (starEach_cons hs'.1) (backTo_plain hs'.2)) fun σ H Q h => tCB_of (fun _ _ => rfl) h
  · have ho := of_decide_eq_true ho
    subst ho
    exact impE (pe_callB (c_sum C.calm) (C.gl hg) (C.gd.blt _ (by decide)) (by decide +kernel) ha (by decide) (by decide) (starEach_cons hs'.1) (backTo_plain hs'.2)) fun σ H Q h => tCB_of (fun _ _ => rfl) h
  · cases ho
theorem tBM_of {o : Op} {a : Ex} {as : As} {T : String} {σ : L2.St} {H : Hp} {Q : VK} (ty : ∀ {S : Sto} {x : D} {v : V} {H : Hp} {ρ : Lc}, bmPre o x S = true → RepS A X.K H ρ S → RepD X.K H ρ x v → tyV X.K T v H) (h : tE A X.K c (.bm o a as) σ H Q) : tBM X.K T (rVm A X.K (bmD o)) (tE A X.K c a) (tA A X.K c as) σ H Q := by
  obtain ⟨ρ, S, env, hs, d, S', h, q⟩ := h
  rw [evE] at h
  obtain ⟨x, S1, h1, h⟩ := Res.bind_ok h
  refine ⟨ρ, S, env, hs, x, S1, h1, fun v H1 ρ1 f1 rs1 rd1 => ?_⟩
  split at h
  · rename_i hp
    obtain ⟨ds, S2, h2, h⟩ := Res.bind_ok h
    exact ⟨ty hp rs1 rd1, ρ1, S1, env, ds, S2, hs.ext f1 rs1, h2, fun vs H2 ρ2 f2 rs2 rd2 => ⟨ρ2, S2, x, ds, rs2, rd1.ext f2, rd2, d, S', h, fun w H' ρ' f3 rs3 rd3 => q w H' ρ' ((f1.trans f2).trans f3) rs3 rd3⟩⟩
  · cases h
theorem s_bm (C : Cq G A fa fd c k N sc X) {o : Op} {a : Ex} {as : As} {ob : Expr} {m : Str} {e : Expr} {es : List Expr} {apos cpos : Pos} (ho : bmB o m = true) (hb : baseOk ob = true) (hl : (apos.endLine == cpos.line) = true) (hlen : es.length < 28)
    (hs : (e :: es).all noStar = true) (hob : PE X ob (tE A X.K c a)) (ha : PA X (e :: es) (tA A X.K c as)) : PE X (.Call (.Attribute ob m apos) (e :: es) [] cpos) (tE A X.K c (.bm o a as)) := by
  have hs' := hs
  rw [List.all_cons, Bool.and_eq_true] at hs'
  have few : ((backTo cpos (starEach (e :: es) X.env)).all (fun x => !x.1) && (backToKw cpos (keywordEach [] X.env)).all (fun x => x.1.isSome)
      && decide ((e :: es).length + ([] : List Keyword).length + (if ([] : List Keyword).isEmpty then 0 else 1) < 30)) = true := by
    rw [backTo_all hs]
    simp [keywordEach, backToKw]
    omega
  unfold bmB at ho
  split at ho
  · have ho := of_decide_eq_true ho
    subst ho
    refine impE (pe_bm PySem.F.plainAttrs_list PySem.F.slot_list_append PySem.F.type_list_append m_append hob ha (base_ok hb) few hl (starEach_cons hs'.1) (backTo_plain hs'.2)) fun σ H Q h => tBM_of (fun hp rs rd => ?_) h
    obtain ⟨n, xs, rfl, hn⟩ := isLO_ok hp
    obtain ⟨a', rfl, _, vs, h1, _⟩ := obj_at rs rd hn
    exact .inl ⟨rfl, vs, SqL.of h1⟩
  · have ho := of_decide_eq_true ho
    subst ho
    refine impE (pe_bm PySem.F.plainAttrs_str PySem.F.slot_str_join PySem.F.type_str_join m_join hob ha (base_ok hb) few hl (starEach_cons hs'.1) (backTo_plain hs'.2)) fun σ H Q h => tBM_of (fun {S x v H ρ} hp rs rd => ?_) h
    cases x <;> first | (cases rd; exact rfl) | (cases hp; done)
  · have ho := of_decide_eq_true ho
    subst ho
    refine impE (pe_bm PySem.F.plainAttrs_str PySem.F.slot_str_index PySem.F.type_str_index m_index hob ha (base_ok hb) few hl (starEach_cons hs'.1) (backTo_plain hs'.2)) fun σ H Q h => tBM_of (fun {S x v H ρ} hp rs rd => ?_) h
    cases x <;> first | (cases rd; exact rfl) | (cases hp; done)
  · cases ho
theorem s_dget (C : Cq G A fa fd c k N sc X) {o p d : Ex} {ob e f : Expr} {apos cpos : Pos} (hb : baseOk ob = true) (hl : (apos.endLine == cpos.line) = true) (hn : noStar e = true) (hn' : noStar f = true)
    (hob : PE X ob (tE A X.K c o)) (hp : PE X e (tE A X.K c p)) (hq : PE X f (tE A X.K c d)) : PE X (.Call (.Attribute ob "get" apos) [e, f] [] cpos) (tE A X.K c (.dget o p d)) := by
  have hs : ([e, f] : List Expr).all noStar = true := by rw [List.all_cons, List.all_cons, hn, hn']; rfl
  have few : ((backTo cpos (starEach [e, f] X.env)).all (fun x => !x.1) && (backToKw cpos (keywordEach [] X.env)).all (fun x => x.1.isSome)
      && decide (([e, f] : List Expr).length + ([] : List Keyword).length + (if ([] : List Keyword).isEmpty then 0 else 1) < 30)) = true := by
    rw [backTo_all hs]
    simp [keywordEach, backToKw]
  refine impE (pe_dget2 (hu_of C.room) hob hp hq ⟨base_ok hb, few, hl, by rw [starEach_map hs]; rfl⟩) fun σ H Q h => ?_
  obtain ⟨ρ, S, env, hs, d, S', h, q'⟩ := h
  rw [evE] at h
  obtain ⟨x, S1, h1, h2⟩ := Res.bind_ok h
  clear h
  refine ⟨ρ, S, env, hs, x, S1, h1, fun v H1 ρ1 f1 rs1 rd1 => ?_⟩
  split at h2
  · rename_i hpre
    obtain ⟨y, S3, g1, h4⟩ := Res.bind_ok h2
    clear h2
    obtain ⟨z, S2, g3, h3⟩ := Res.bind_ok h4
    clear h4
    obtain ⟨n, kvs, rfl, hn⟩ := isDO_ok hpre
    obtain ⟨a', rfl, ea, us, k1, k2⟩ := obj_at rs1 rd1 hn
    refine ⟨a', rfl, .inr ⟨us, .inl k1⟩, ρ1, S1, env, hs.ext f1 rs1, y, S3, g1, fun v2 H2 ρ2 f2 rs2 rd2 => ⟨ρ2, S3, env, hs.ext (f1.trans f2) rs2, z, S2, g3, fun v3 H3 ρ3 f3 rs3 rd3 => ?_⟩⟩
    unfold mGet at h3
    split at h3
    · rename_i n' ks z' heq1 heq2
      cases heq1
      cases heq2
      split at h3
      · rename_i kvs' ks' hn' hk
        cases h3
        obtain ⟨a2, e2, ea2, us', k1', k2'⟩ := obj_at rs3 (show RepD X.K H3 ρ3 (.obj n) (.ref a') from ⟨a', rfl, (f2.trans f3).get ea⟩) hn'
        cases e2
        obtain ⟨b, rfl, hb'⟩ := way_at hk (rd2.ext f3)
        refine ⟨_, DGet.t k1' hb', ?_⟩
        rcases val_rep ks' k2' with ⟨w1, w2⟩ | ⟨dd, vv, w1, w2, w3⟩
        · rw [w2]
          exact q' _ H3 ρ3 ((f1.trans f2).trans f3) rs3 (by rw [w1]; exact rd3)
        · rw [w2]
          exact q' _ H3 ρ3 ((f1.trans f2).trans f3) rs3 (by rw [w1]; exact w3)
      · cases h3
    · cases h3
  · cases h2
end
end Ev

namespace Ev
open PySem PySem.Spec L2
open PyProof.Rows (IsTup)
/-! ### tests -/
section
variable {G : Gc} {A : Ad} {fa : Nat → Addr} {fd : Nat → FuncData} {c : Calls} {k : Nat} {N : List Str} {sc : Scope} {X : Cx}
theorem pw_of_pt {op : BoolOp} {vs : List Expr} {pos : Pos} {t : TT} (h : PT X (.BoolOp op vs pos) t) : PW X (.BoolOp op vs pos) t := fun _ pins s σ H Q I q => h pins s σ H Q I q
theorem t_and {a b : Ts} {l r : Expr} {rest : List Expr} {pos : Pos} (ha : PT X l (tT A X.K c a)) (hb : PW X (.BoolOp .And (r :: rest) pos) (tT A X.K c b)) : PT X (.BoolOp .And (l :: r :: rest) pos) (tT A X.K c (.and a b)) := impT (pw_and ha hb).pt fun σ H Q h => by
  obtain ⟨ρ, S, env, d, S', hs, h, q⟩ := h
  rw [evT] at h
  obtain ⟨x, S1, h1, h2⟩ := Res.bind_ok h
  refine ⟨ρ, S, env, x, S1, hs, h1, fun H1 ρ1 e1 rs1 => ?_⟩
  cases x with
  | true => rw [if_pos rfl] at h2 ⊢; exact ⟨ρ1, S1, env, d, S', hs.ext e1 rs1, h2, fun H' ρ' e2 rs2 => q H' ρ' (e1.trans e2) rs2⟩
  | false => rw [if_neg Bool.false_ne_true] at h2 ⊢; cases h2; exact q H1 ρ1 e1 rs1
theorem t_or {a b : Ts} {l r : Expr} {rest : List Expr} {pos : Pos} (ha : PT X l (tT A X.K c a)) (hb : PW X (.BoolOp .Or (r :: rest) pos) (tT A X.K c b)) : PT X (.BoolOp .Or (l :: r :: rest) pos) (tT A X.K c (.or a b)) := impT (pw_or ha hb).pt fun σ H Q h => by
  obtain ⟨ρ, S, env, d, S', hs, h, q⟩ := h
  rw [evT] at h
  obtain ⟨x, S1, h1, h2⟩ := Res.bind_ok h
  refine ⟨ρ, S, env, x, S1, hs, h1, fun H1 ρ1 e1 rs1 => ?_⟩
  cases x with
  | true => rw [if_pos rfl] at h2 ⊢; cases h2; exact q H1 ρ1 e1 rs1
  | false => rw [if_neg Bool.false_ne_true] at h2 ⊢; exact ⟨ρ1, S1, env, d, S', hs.ext e1 rs1, h2, fun H' ρ' e2 rs2 => q H' ρ' (e1.trans e2) rs2⟩
theorem t_not {a : Ts} {l : Expr} {pos : Pos} (ha : PT X l (tT A X.K c a)) : PT X (.UnaryOp .Not l pos) (tT A X.K c (.not a)) := impT (pt_not ha) fun σ H Q h => by
  obtain ⟨ρ, S, env, d, S', hs, h, q⟩ := h
  rw [evT] at h
  obtain ⟨x, S1, h1, h2⟩ := Res.bind_ok h
  cases h2
  exact ⟨ρ, S, env, x, _, hs, h1, fun H1 ρ1 e1 rs1 => q H1 ρ1 e1 rs1⟩
theorem t_val {p : Ex} {e : Expr} (hp : plainT e = true) (he : PE X e (tE A X.K c p)) : PT X e (tT A X.K c (.val p)) := impT (pt_truth he (isTrue_ok hp)) fun σ H Q h => by
  obtain ⟨ρ, S, env, d, S', hs, h, q⟩ := h
  rw [evT] at h
  obtain ⟨x, S1, h1, h2⟩ := Res.bind_ok h
  refine ⟨ρ, S, env, hs, x, S1, h1, fun v H1 ρ1 e1 rs1 rd1 => ?_⟩
  split at h2
  · rename_i k' hk
    cases h2
    exact ⟨_, tru_rep rs1 hk rd1, q H1 ρ1 e1 rs1⟩
  · cases h2
theorem t_qnone : PTs X [] (tTq A X.K c .none) := fun pins s σ H Q I h => by
  obtain ⟨ρ, S, env, d, S', hs, h, q⟩ := h
  cases h
  exact pts_nil pins s σ H Q I (q H ρ .refl hs.rs)
theorem t_qsome {t : Ts} {e : Expr} (h : PT X e (tT A X.K c t)) : PTs X [e] (tTq A X.K c (.some t)) := fun pins s σ H Q I hq => pts_one h pins s σ H Q I (by
  obtain ⟨ρ, S, env, d, S', hs, h, q⟩ := hq
  exact ⟨ρ, S, env, d, S', hs, h, q⟩)
/-! ### walks -/
theorem rangeD_get : ∀ {n : Nat} {lo : Int} {i : Nat} {d : D}, (rangeD lo n)[i]? = some d → i < n ∧ d = .int (lo + i)
  | 0, _, _, _, h => by simp [rangeD] at h
  | n + 1, lo, 0, d, h => by
    simp only [rangeD, List.getElem?_cons_zero] at h
    cases h
    exact ⟨Nat.succ_pos _, by simp⟩
  | n + 1, lo, i + 1, d, h => by
    simp only [rangeD, List.getElem?_cons_succ] at h
    obtain ⟨h1, h2⟩ := rangeD_get h
    exact ⟨by omega, by rw [h2]; congr 1; omega⟩
theorem rangeD_len : ∀ {n : Nat} {lo : Int}, (rangeD lo n).length = n
  | 0, _ => rfl
  | n + 1, lo => by simp [rangeD, rangeD_len]
theorem w_range {K : PySem.W.Frag} {H : Hp} {ρ : Lc} (lo : Int) (n : Nat) : Walks K (Itr lo n) H ρ (rangeD lo n) := fun H1 ρ1 e hf => by
  refine ⟨fun i d h => ?_, fun i h => ?_⟩
  · obtain ⟨h1, rfl⟩ := rangeD_get h
    refine ⟨h1, fun x H2 y => ?_⟩
    obtain ⟨rfl, rfl⟩ := y
    exact ⟨Same.refl _, rfl⟩
  · rw [rangeD_len] at h
    exact h
theorem w_list {K : PySem.W.Frag} {H : Hp} {ρ : Lc} {ds : List D} {a : Addr} (r : RepD K H ρ (.lst ds) (.ref a)) : Walks K (Itl K a) H ρ ds := fun H1 ρ1 e hf => by
  obtain ⟨b, vs, eb, h1, h2, h3⟩ := r.ext e
  cases eb
  refine ⟨fun i d h => ?_, fun i h => ⟨vs, h1, by rw [h3.length]; exact h⟩⟩
  obtain ⟨v, g1, g2⟩ := h3.get h
  refine ⟨⟨vs, v, h1, g1⟩, fun x H2 y => ?_⟩
  obtain ⟨rfl, y⟩ := y
  have e1 := y vs h1
  rw [g1] at e1
  cases e1
  exact ⟨Same.refl _, g2⟩
theorem w_tup {K : PySem.W.Frag} {H : Hp} {ρ : Lc} {ds : List D} {a : Addr} (r : RepD K H ρ (.tup ds) (.ref a)) : Walks K (Itt K a) H ρ ds := fun H1 ρ1 e hf => by
  obtain ⟨b, vs, eb, h1, h2, h3⟩ := r.ext e
  cases eb
  refine ⟨fun i d h => ?_, fun i h => ⟨vs, h1, by rw [h3.length]; exact h⟩⟩
  obtain ⟨v, g1, g2⟩ := h3.get h
  refine ⟨⟨vs, v, h1, g1⟩, fun x H2 y => ?_⟩
  obtain ⟨rfl, y⟩ := y
  have e1 := y vs h1
  rw [g1] at e1
  cases e1
  exact ⟨Same.refl _, g2⟩
theorem w_str {K : PySem.W.Frag} {H : Hp} {ρ : Lc} (x : List Nat) : Walks K (Its ⟨x.toArray⟩) H ρ (x.map fun c => .str [c]) := fun H1 ρ1 e hf => by
  refine ⟨fun i d h => ?_, fun i h => ?_⟩
  · rw [List.getElem?_map] at h
    obtain ⟨c, h1, rfl⟩ := Option.map_eq_some_iff.mp h
    refine ⟨?_, fun v H2 y => ?_⟩
    · show i < x.toArray.size
      simpa using (List.getElem?_eq_some_iff.mp h1).1
    · obtain ⟨rfl, c', h2, rfl⟩ := y
      have h2 : x.toArray[i]? = some c' := h2
      rw [List.getElem?_toArray, h1] at h2
      cases h2
      exact ⟨Same.refl _, rfl⟩
  · show x.toArray.size ≤ i
    simpa using h
theorem enumD_get : ∀ {ds : List D} {k i : Nat} {d : D}, (enumD k ds)[i]? = some d → ∃ x, ds[i]? = some x ∧ d = .tup [.int (k + i : Nat), x]
  | [], _, _, _, h => by simp [enumD] at h
  | x :: ds, k, 0, d, h => by
    simp only [enumD, List.getElem?_cons_zero] at h
    cases h
    exact ⟨x, rfl, rfl⟩
  | x :: ds, k, i + 1, d, h => by
    simp only [enumD, List.getElem?_cons_succ] at h
    obtain ⟨y, h1, h2⟩ := enumD_get h
    exact ⟨y, h1, by rw [h2]; congr 4; omega⟩
theorem enumD_len : ∀ {ds : List D} {k : Nat}, (enumD k ds).length = ds.length
  | [], _ => rfl
  | x :: ds, k => by simp [enumD, enumD_len]
theorem w_enum {K : PySem.W.Frag} {H : Hp} {ρ : Lc} {ds : List D} {a : Addr} (r : RepD K H ρ (.lst ds) (.ref a)) : Walks K (Ite K a) H ρ (enumD 0 ds) := fun H1 ρ1 e hf => by
  obtain ⟨b, vs, eb, h1, h2, h3⟩ := r.ext e
  cases eb
  refine ⟨fun i d h => ?_, fun i h => ⟨vs, h1, by rw [h3.length]; rw [enumD_len] at h; exact h⟩⟩
  obtain ⟨y, hy, rfl⟩ := enumD_get h
  obtain ⟨v, g1, g2⟩ := h3.get hy
  refine ⟨⟨vs, v, h1, g1⟩, fun x H2 q => ?_⟩
  obtain ⟨T, w, rfl, hT, rfl, q⟩ := q
  have e1 := q vs h1
  rw [g1] at e1
  cases e1
  refine ⟨same_new hT, T, _, rfl, SqT.of upd_same, .inl ⟨upd_same, hf T hT⟩, _, _, rfl, ?_, _, _, rfl, g2.ext (.same (same_new hT)), rfl⟩
  show V.int _ = V.int _
  simp
theorem zipD_get : ∀ {xs ys : List D} {i : Nat} {d : D}, (zipD xs ys)[i]? = some d → ∃ x y, xs[i]? = some x ∧ ys[i]? = some y ∧ d = .tup [x, y]
  | [], _, _, _, h => by simp [zipD] at h
  | _ :: _, [], _, _, h => by simp [zipD] at h
  | x :: xs, y :: ys, 0, d, h => by
    simp only [zipD, List.getElem?_cons_zero] at h
    cases h
    exact ⟨x, y, rfl, rfl, rfl⟩
  | x :: xs, y :: ys, i + 1, d, h => by
    simp only [zipD, List.getElem?_cons_succ] at h
    obtain ⟨a, b, h1, h2, h3⟩ := zipD_get (xs := xs) (ys := ys) (i := i) h
    exact ⟨a, b, h1, h2, h3⟩
theorem zipD_len : ∀ {xs ys : List D}, (zipD xs ys).length = min xs.length ys.length
  | [], _ => by simp [zipD]
  | _ :: _, [] => by simp [zipD]
  | x :: xs, y :: ys => by simp [zipD, zipD_len]
theorem w_zip {K : PySem.W.Frag} {H : Hp} {ρ : Lc} {xs ys : List D} {a b : Addr} (r : RepD K H ρ (.lst xs) (.ref a)) (r' : RepD K H ρ (.lst ys) (.ref b)) : Walks K (Itz K a b) H ρ (zipD xs ys) := fun H1 ρ1 e hf => by
  obtain ⟨a', vs, eb, h1, h2, h3⟩ := r.ext e
  cases eb
  obtain ⟨b', us, eb, k1, k2, k3⟩ := r'.ext e
  cases eb
  refine ⟨fun i d h => ?_, fun i h => ⟨vs, us, h1, k1, ?_⟩⟩
  · obtain ⟨x, y, hx, hy, rfl⟩ := zipD_get h
    obtain ⟨v, g1, g2⟩ := h3.get hx
    obtain ⟨u, l1, l2⟩ := k3.get hy
    refine ⟨⟨vs, us, v, u, h1, k1, g1, l1⟩, fun z H2 q => ?_⟩
    obtain ⟨T, w, w', rfl, hT, rfl, q, q'⟩ := q
    have e1 := q vs h1
    rw [g1] at e1
    cases e1
    have e1 := q' us k1
    rw [l1] at e1
    cases e1
    exact ⟨same_new hT, T, _, rfl, SqT.of upd_same, .inl ⟨upd_same, hf T hT⟩, _, _, rfl, g2.ext (.same (same_new hT)), _, _, rfl, l2.ext (.same (same_new hT)), rfl⟩
  · rw [zipD_len] at h
    rw [h3.length, k3.length]
    omega
theorem i_seq {p : Ex} {tg e : Expr} (he : PE X e (tE A X.K c p)) : PI X tg e (tI A X.K c (.seq p)) := fun pins s σ H R I h => by
  obtain ⟨ρ, S, env, ds, S', hs, h, q⟩ := h
  rw [evSr] at h
  obtain ⟨d, S1, h1, h2⟩ := Res.bind_ok h
  clear h
  split at h2
  · rename_i ds' hd
    cases h2
    unfold seqD at hd
    split at hd
    · cases hd
      refine pi_tup he pins s σ H R I ⟨ρ, S, env, hs, _, _, h1, fun v H1 ρ1 e1 rs1 rd1 => ?_⟩
      obtain ⟨a, vs, rfl, g⟩ := id rd1
      exact ⟨a, rfl, ⟨vs, g.1⟩, q _ H1 ρ1 e1 rs1 (w_tup rd1)⟩
    · cases hd
      refine pi_list he pins s σ H R I ⟨ρ, S, env, hs, _, _, h1, fun v H1 ρ1 e1 rs1 rd1 => ?_⟩
      obtain ⟨a, vs, rfl, g⟩ := id rd1
      exact ⟨a, rfl, ⟨vs, g.1⟩, q _ H1 ρ1 e1 rs1 (w_list rd1)⟩
    · cases hd
      refine pi_str he pins s σ H R I ⟨ρ, S, env, hs, _, _, h1, fun v H1 ρ1 e1 rs1 rd1 => ?_⟩
      cases rd1
      exact ⟨_, rfl, q _ H1 ρ1 e1 rs1 (w_str _)⟩
    · cases hd
  · cases h2
theorem small_ok {j : Int} (h : smallI j = true) : -(2 ^ 62) ≤ j ∧ j < 2 ^ 62 := by
  unfold smallI at h
  simp only [Bool.and_eq_true, decide_eq_true_eq] at h
  omega
theorem i_range1 (C : Cq G A fa fd c k N sc X) {p : Ex} {tg a : Expr} {np pos : Pos} (hg : glB sc "range" = true) (hn : noStar a = true) (he : PE X a (tE A X.K c p)) : PI X tg (.Call (.Name "range" np) [a] [] pos) (tI A X.K c (.range1 p)) := impI (pi_range1 (C.gl hg) (C.gd.blt _ (by decide)) (pa_cons he pa_nil (starEach_cons hn)) (by rw [starEach_cons hn]; rfl)) fun σ H R h => by
  obtain ⟨ρ, S, env, ds, S', hs, h, q⟩ := h
  rw [evSr] at h
  obtain ⟨d, S1, h1, h2⟩ := Res.bind_ok h
  clear h
  refine ⟨ρ, S, env, hs, d, S1, h1, fun v H1 ρ1 e1 rs1 rd1 => ?_⟩
  split at h2
  · obtain ⟨hc, rfl, rfl⟩ := okV_ok h2
    cases rd1
    obtain ⟨b1, b2⟩ := small_ok hc
    exact ⟨_, rfl, b1, b2, q _ H1 ρ1 e1 rs1 (w_range _ _)⟩
  · cases h2
theorem i_range2 (C : Cq G A fa fd c k N sc X) {p p' : Ex} {tg a b : Expr} {np pos : Pos} (hg : glB sc "range" = true) (hn : noStar a = true) (hn' : noStar b = true) (he : PE X a (tE A X.K c p)) (he' : PE X b (tE A X.K c p')) : PI X tg (.Call (.Name "range" np) [a, b] [] pos) (tI A X.K c (.range2 p p')) :=
  impI (pi_range2 (C.gl hg) (C.gd.blt _ (by decide)) (pa_cons he (pa_cons he' pa_nil (starEach_cons hn')) (starEach_cons hn)) (by rw [starEach_cons hn, starEach_cons hn']; rfl) (by rw [starEach_cons hn']; rfl)) fun σ H R h => by
    obtain ⟨ρ, S, env, ds, S', hs, h, q⟩ := h
    rw [evSr] at h
    obtain ⟨d, S1, h1, h2⟩ := Res.bind_ok h
    clear h
    obtain ⟨g, S2, h3, h4⟩ := Res.bind_ok h2
    clear h2
    refine ⟨ρ, S, env, hs, d, S1, h1, fun v H1 ρ1 e1 rs1 rd1 => ⟨ρ1, S1, env, hs.ext e1 rs1, g, S2, h3, fun u H2 ρ2 e2 rs2 rd2 => ?_⟩⟩
    split at h4
    · obtain ⟨hc, rfl, rfl⟩ := okV_ok h4
      rw [Bool.and_eq_true] at hc
      cases rd1
      cases rd2
      obtain ⟨b1, b2⟩ := small_ok hc.1
      obtain ⟨b3, b4⟩ := small_ok hc.2
      exact ⟨_, _, rfl, ⟨b1, b2, b3, b4⟩, q _ H2 ρ2 (e1.trans e2) rs2 (w_range _ _)⟩
    · cases h4
theorem i_enum (C : Cq G A fa fd c k N sc X) {p : Ex} {tg a : Expr} {np pos : Pos} (hg : glB sc "enumerate" = true) (hn : noStar a = true) (ht : isTuple tg = true) (he : PE X a (tE A X.K c p)) : PI X tg (.Call (.Name "enumerate" np) [a] [] pos) (tI A X.K c (.enum p)) := by
  cases tg <;> first | (cases ht; done) | skip
  refine impI (pi_enum (C.gl hg) (C.gd.blt _ (by decide)) (pa_cons he pa_nil (starEach_cons hn)) (by rw [starEach_cons hn]; rfl)) fun σ H R h => ?_
  obtain ⟨ρ, S, env, ds, S', hs, h, q⟩ := h
  rw [evSr] at h
  obtain ⟨d, S1, h1, h2⟩ := Res.bind_ok h
  clear h
  refine ⟨ρ, S, env, hs, d, S1, h1, fun v H1 ρ1 e1 rs1 rd1 => ?_⟩
  split at h2
  · cases h2
    obtain ⟨b, vs, rfl, g⟩ := id rd1
    exact ⟨b, vs, rfl, g.1, q _ H1 ρ1 e1 rs1 (w_enum rd1)⟩
  · cases h2
theorem i_zip (C : Cq G A fa fd c k N sc X) {p p' : Ex} {tg a b : Expr} {np pos : Pos} (hg : glB sc "zip" = true) (hn : noStar a = true) (hn' : noStar b = true) (ht : isTuple tg = true) (he : PE X a (tE A X.K c p)) (he' : PE X b (tE A X.K c p')) : PI X tg (.Call (.Name "zip" np) [a, b] [] pos) (tI A X.K c (.zip p p')) := by
  cases tg <;> first | (cases ht; done) | skip
  refine impI (pi_zip (C.gl hg) (C.gd.blt _ (by decide)) (pa_cons he (pa_cons he' pa_nil (starEach_cons hn')) (starEach_cons hn)) (starEach_cons hn) (backTo_plain (by rw [List.all_cons, hn']; rfl))) fun σ H R h => ?_
  obtain ⟨ρ, S, env, ds, S', hs, h, q⟩ := h
  rw [evSr] at h
  obtain ⟨d, S1, h1, h2⟩ := Res.bind_ok h
  clear h
  obtain ⟨g, S2, h3, h4⟩ := Res.bind_ok h2
  clear h2
  refine ⟨ρ, S, env, hs, d, S1, h1, fun v H1 ρ1 e1 rs1 rd1 => ⟨ρ1, S1, env, hs.ext e1 rs1, g, S2, h3, fun u H2 ρ2 e2 rs2 rd2 => ?_⟩⟩
  split at h4
  · cases h4
    have rd1' := rd1.ext e2
    obtain ⟨b, vs, rfl, g⟩ := id rd1'
    obtain ⟨b', vs', rfl, g'⟩ := id rd2
    exact ⟨b, b', vs, vs', rfl, g.1, g'.1, q _ H2 ρ2 (e1.trans e2) rs2 (w_zip rd1' rd2)⟩
  · cases h4
end
end Ev

namespace Ev
open PySem PySem.Spec L2
open PyProof.Rows (IsTup)
/-! ### targets -/
def gAll : List Nat → TGs
  | [] => gNil
  | i :: is => gCons (gName i) (gAll is)
def gTg (K : PySem.W.Frag) : Tg → TG
  | .name i => gName i
  | .tup is => gTup K is.length (gAll is)
section
variable {X : Cx} {N : List Str} {sc : Scope} {fn : Str → Bool}
theorem g_name (hN : X.N = N) (hS : X.env.scope = sc) (nd : N.Nodup) (hf : ∀ x, fn x = true → X.fn x = true) {i : Nat} {e : Expr} (h : tgB N sc fn i e = true) : PG X e (gName i) := by
  unfold tgB at h
  split at h
  · rw [Bool.and_eq_true] at h
    obtain ⟨h1, h2⟩ := h
    unfold locB at h2
    rw [Bool.or_eq_true, Bool.and_eq_true] at h2
    refine pg_name (by rw [hN]; exact nd) (by rw [hN]; exact of_decide_eq_true h1) ?_ ?_
    · rw [hS]
      rcases h2 with h2 | ⟨h2, _⟩
      · exact .inl (of_decide_eq_true h2)
      · exact .inr (of_decide_eq_true h2)
    · rw [hS]
      rcases h2 with h2 | ⟨_, h2⟩
      · exact .inr (of_decide_eq_true h2)
      · exact .inl (hf _ h2)
  · cases h
theorem noStarT {i : Nat} {e : Expr} (h : tgB N sc fn i e = true) : ∃ x p, e = .Name x p := by
  unfold tgB at h
  split at h
  · exact ⟨_, _, rfl⟩
  · cases h
theorem g_all (hN : X.N = N) (hS : X.env.scope = sc) (nd : N.Nodup) (hf : ∀ x, fn x = true → X.fn x = true) : ∀ {is : List Nat} {es : List Expr}, tgsB N sc fn is es = true → PGs X es (gAll is) ∧ (assignEach es X.env).length = is.length ∧ (assignEach es X.env).findIdx? (·.1) = none
  | [], [], _ => ⟨pgs_nil, rfl, rfl⟩
  | [], _ :: _, h => by cases h
  | _ :: _, [], h => by cases h
  | i :: is, e :: es, h => by
    unfold tgsB at h
    rw [Bool.and_eq_true] at h
    obtain ⟨h1, h2, h3⟩ := g_all hN hS nd hf h.2
    obtain ⟨x, p, rfl⟩ := noStarT h.1
    refine ⟨pgs_cons (g_name hN hS nd hf h.1) h1 rfl, ?_, ?_⟩
    · show (assignEach es X.env).length + 1 = is.length + 1
      rw [h2]
    · show ((false, assign (.Name x p) X.env) :: assignEach es X.env).findIdx? (·.1) = none
      rw [List.findIdx?_cons, h3]
      rfl
theorem g_tg (hc : X.calm = true) (hN : X.N = N) (hS : X.env.scope = sc) (nd : N.Nodup) (hf : ∀ x, fn x = true → X.fn x = true) : ∀ {tg : Tg} {e : Expr}, chkTg N sc fn tg e = true → PG X e (gTg X.K tg)
  | .name i, e, h => g_name hN hS nd hf h
  | .tup is, e, h => by
    cases e <;> first | (cases h; done) | skip
    have h := h
    obtain ⟨h1, h2, h3⟩ := g_all hN hS nd hf h
    exact pg_tup hc h1 h2 h3
end
section
variable {K : PySem.W.Frag} {H : Hp} {ρ : Lc}
theorem wipe_get (σ : L2.St) : ∀ (vs : List Nat) (j : Nat), (L2.wipe σ vs)[j]? = if j ∈ vs then (σ[j]?).map (fun _ => none) else σ[j]?
  | [], j => by simp [L2.wipe]
  | v :: vs, j => by
    unfold L2.wipe
    by_cases e : v = j
    · subst e
      rw [List.getElem?_set_self']
      rw [wipe_get σ vs v]
      split
      · simp; cases σ[v]? <;> rfl
      · simp; cases σ[v]? <;> rfl
    · rw [List.getElem?_set_ne e, wipe_get σ vs j]
      have : (j ∈ v :: vs) ↔ j ∈ vs := by simp [Ne.symm e]
      simp only [this]
theorem wipe_set {σ : L2.St} {i : Nat} {w : Option V} {own : List Nat} (h : i ∈ own) : L2.wipe (σ.set i w) own = L2.wipe σ own := by
  apply List.ext_getElem?
  intro j
  rw [wipe_get, wipe_get]
  by_cases e : i = j
  · subst e
    rw [if_pos h, if_pos h]
    rw [List.getElem?_set_self']
    cases σ[i]? <;> rfl
  · rw [List.getElem?_set_ne e]
theorem wipe_wipe {σ : L2.St} {own : List Nat} : L2.wipe (L2.wipe σ own) own = L2.wipe σ own := by
  apply List.ext_getElem?
  intro j
  rw [wipe_get, wipe_get]
  split
  · cases σ[j]? <;> rfl
  · rfl
theorem gAll_run : ∀ {is : List Nat} {ds : List D} {vs : List V} {env env' : Nv} {σ : L2.St} {Q : L2.St → Hp → Prop}, RepE K H ρ env σ → RepDs K H ρ ds vs → setAll is ds env = some env' →
    (∀ σ', RepE K H ρ env' σ' → (∀ own, (∀ i ∈ is, i ∈ own) → L2.wipe σ' own = L2.wipe σ own) → Q σ' H) → gAll is vs σ H Q
  | [], ds, _, _, _, _, _, re, rd, h, q => by
    cases ds with
    | nil =>
      cases h
      cases rd
      exact ⟨rfl, q _ re fun _ _ => rfl⟩
    | cons => cases h
  | i :: is, ds, _, env, _, σ, _, re, rd, h, q => by
    cases ds with
    | nil => cases h
    | cons d ds =>
      obtain ⟨v, r, rfl, h1, h2⟩ := rd
      refine ⟨v, r, rfl, gAll_run (re.set h1 i) h2 h fun σ' re' w => q σ' re' fun own ho => ?_⟩
      rw [w own fun j hj => ho j (List.mem_cons_of_mem _ hj)]
      exact wipe_set (ho i List.mem_cons_self)
theorem setAll_len : ∀ {is : List Nat} {ds : List D} {env env' : Nv}, setAll is ds env = some env' → ds.length = is.length
  | [], [], _, _, _ => rfl
  | [], _ :: _, _, _, h => by cases h
  | _ :: _, [], _, _, h => by cases h
  | i :: is, d :: ds, _, _, h => by
    have := setAll_len (is := is) (ds := ds) h
    simp [this]
theorem gTg_run {tg : Tg} {d : D} {v : V} {env env' : Nv} {σ : L2.St} {Q : L2.St → Hp → Prop} (re : RepE K H ρ env σ) (rd : RepD K H ρ d v) (h : setTg tg d env = some env')
    (q : ∀ σ', RepE K H ρ env' σ' → (∀ own, (∀ i ∈ tgI tg, i ∈ own) → L2.wipe σ' own = L2.wipe σ own) → Q σ' H) : gTg K tg v σ H Q := by
  cases tg with
  | name i =>
    cases h
    exact q _ (re.set rd i) fun own ho => wipe_set (ho i (by simp [tgI]))
  | tup is =>
    unfold setTg at h
    split at h
    · rename_i heq; cases heq
    · rename_i is' ds heq
      cases heq
      obtain ⟨a, vs, rfl, h1, h2, h3⟩ := rd
      exact ⟨a, vs, rfl, h1, by rw [h3.length]; exact setAll_len h, gAll_run re h3 h q⟩
    · cases h
end
/-! ### comprehensions -/
section
variable {G : Gc} {A : Ad} {fa : Nat → Addr} {fd : Nat → FuncData} {c : Calls} {k : Nat} {N : List Str} {sc : Scope} {X : Cx}
theorem compD_cons {f : D → Sto → Res (Option D)} {d : D} {r : List D} {S S' : Sto} {xs : List D} (h : compD f (d :: r) S = .ok xs S') : ∃ o S1 ys, f d S = .ok o S1 ∧ compD f r S1 = .ok ys S' ∧ xs = o.toList ++ ys := by
  obtain ⟨o, S1, h1, h2⟩ := Res.bind_ok (show (f d S).bind (fun o S => (compD f r S).bind fun xs S => .ok (o.toList ++ xs) S) = _ from h)
  obtain ⟨ys, S2, h3, h4⟩ := Res.bind_ok h2
  cases h4
  exact ⟨o, S1, ys, h1, h3, rfl⟩
theorem lc_run {src : Sr} {tg : Tg} {ts : Tq} {elt : Ex} {own : List Nat} (hown : ∀ i ∈ tgI tg, i ∈ own) {σ : L2.St} {H : Hp} {Q : VK} (h : tE A X.K c (.comp src tg ts elt own) σ H Q) : tLc (tI A X.K c src) (gTg X.K tg) (tTq A X.K c ts) (tE A X.K c elt) own σ H Q := by
  obtain ⟨ρ, S, env, hs, d, S', h, q⟩ := h
  rw [evE] at h
  obtain ⟨ds, S1, h1, h2⟩ := Res.bind_ok h
  clear h
  obtain ⟨xs, S2, h3, h4⟩ := Res.bind_ok h2
  clear h2
  obtain ⟨hc, rfl, rfl⟩ := okV_ok h4
  clear h4
  have hc := of_decide_eq_true hc
  refine ⟨ρ, S, env, ds, S1, hs, h1, fun J H1 ρ1 f1 rs1 wk D hD => ?_⟩
  generalize hf : (fun d S => match setTg tg d (wipeN env own) with
        | none => Res.bad
        | some σ' => (evTq c ts σ' S).bind fun k S => if k then (evE c elt σ' S).bind fun v S => .ok (some v) S else .ok none S) = f at h3
  refine ⟨fun i m H2 => m = ds.length - i ∧ i ≤ ds.length ∧ ∃ ρ2 S3 acc vs rest, Ext H1 ρ1 H2 ρ2 ∧ D ∈ ρ2.p ∧ RepS A X.K H2 ρ2 S3 ∧ H2 D = some (.lst vs) ∧ RepDs X.K H2 ρ2 acc vs ∧ compD f (ds.drop i) S3 = .ok rest S2 ∧ acc ++ rest = xs, ⟨ds.length, by simp, Nat.zero_le _, ?_⟩, ?_⟩
  · obtain ⟨p1, p2⟩ := rs1.pinned hD (.lst [])
    exact ⟨_, S1, [], [], xs, p2, List.mem_cons_self, p1, upd_same, rfl, h3, rfl⟩
  · rintro i m H2 ⟨rfl, hi, ρ2, S3, acc, vs, rest, e2, hp, rs2, hv, ra, hcd, hx⟩
    have hfr : ∀ a, H2 a = none → ρ2.no a := fun a ha => rs2.fresh ha
    obtain ⟨w1, w2⟩ := wk H2 ρ2 e2 hfr
    by_cases hlt : i < ds.length
    · refine .inr ?_
      have hd : ds[i]? = some ds[i] := List.getElem?_eq_getElem hlt
      obtain ⟨go, yl⟩ := w1 i _ hd
      refine ⟨go, fun H3 => ∃ ρ2 S3 acc vs rest, Ext H1 ρ1 H3 ρ2 ∧ D ∈ ρ2.p ∧ RepS A X.K H3 ρ2 S3 ∧ H3 D = some (.lst vs) ∧ RepDs X.K H3 ρ2 acc vs ∧ compD f (ds.drop (i + 1)) S3 = .ok rest S2 ∧ acc ++ rest = xs, fun H3 n3 => ⟨ds.length - (i + 1), by omega, rfl, hlt, n3⟩, fun x H3 y => ?_⟩
      obtain ⟨sm, rx⟩ := yl x H3 y
      rw [List.drop_eq_getElem_cons hlt] at hcd
      obtain ⟨o, S4, ys, g1, g2, rfl⟩ := compD_cons hcd
      have re : RepE X.K H3 ρ2 (wipeN env own) (L2.wipe σ own) := (((hs.re.ext f1).ext e2).ext (.same sm)).wipe own
      have rs3 := rs2.same sm
      have hv3 : H3 D = some (.lst vs) := sm _ _ hv
      have ra3 : RepDs X.K H3 ρ2 acc vs := ra.ext (.same sm)
      have e3 : Ext H1 ρ1 H3 ρ2 := e2.trans (.same sm)
      rw [← hf] at g1
      simp only at g1
      cases hst : setTg tg ds[i] (wipeN env own) with
      | none => rw [hst] at g1; cases g1
      | some env' =>
        rw [hst] at g1
        simp only at g1
        obtain ⟨b, S5, g3, g4⟩ := Res.bind_ok g1
        refine gTg_run re rx hst fun σ' re' wp => ⟨(wp own hown).trans wipe_wipe, ρ2, S3, env', b, S5, ⟨rs3, re'⟩, g3, fun H4 ρ4 e4 rs4 => ?_⟩
        have nD : D ∉ ρ2.o := (rs3.pin D hp).1
        have hv4 : H4 D = some (.lst vs) := e4.keep D _ hv3 nD
        have hp4 : D ∈ ρ4.p := by
          obtain ⟨q', eq, _⟩ := e4.pin
          rw [eq]
          exact List.mem_append_right _ hp
        cases b with
        | false =>
          rw [if_neg Bool.false_ne_true] at g4
          cases g4
          refine iteF ?_
          exact ⟨ρ4, _, acc, vs, ys, e3.trans e4, hp4, rs4, hv4, ra3.ext e4, g2, hx⟩
        | true =>
          rw [if_pos rfl] at g4
          refine iteT ?_
          obtain ⟨z, S6, g5, g6⟩ := Res.bind_ok g4
          cases g6
          refine ⟨ρ4, S5, env', ⟨rs4, re'.ext e4⟩, z, _, g5, fun y5 H5 ρ5 e5 rs5 rd5 => ?_⟩
          have nD4 : D ∉ ρ4.o := (rs4.pin D hp4).1
          have hv5 : H5 D = some (.lst vs) := e5.keep D _ hv4 nD4
          have hp5 : D ∈ ρ5.p := by
            obtain ⟨q', eq, _⟩ := e5.pin
            rw [eq]
            exact List.mem_append_right _ hp4
          refine ⟨vs, hv5, ?_, ρ5, _, acc ++ [z], vs ++ [y5], ys, ((e3.trans e4).trans e5).updP hD, hp5, rs5.updP hp5, upd_same, ?_, g2, ?_⟩
          · have l1 := ra3.length
            have l2 : acc.length < xs.length := by rw [← hx]; simp
            rw [l1, line_eq]
            omega
          · exact (((ra3.ext e4).ext e5).updP hp5).append ⟨y5, [], rfl, rd5.updP hp5, rfl⟩
          · rw [← hx]; simp
    · have ei : i = ds.length := by omega
      subst ei
      refine .inl ⟨w2 _ (Nat.le_refl _), ?_⟩
      rw [List.drop_length] at hcd
      cases hcd
      rw [List.append_nil] at hx
      subst hx
      have nD : D ∉ ρ2.o := (rs2.pin D hp).1
      have sub : ∀ a ∈ ρ1.p, a ∈ ρ2.p := fun a m => by
        obtain ⟨q', eq, _⟩ := e2.pin
        rw [eq]
        exact List.mem_append_right _ m
      have hn : ∀ a, ρ2.no a → (⟨ρ2.o, ρ1.p⟩ : Lc).no a := fun a z => ⟨z.1, fun m => z.2 (sub a m)⟩
      refine q (.ref D) H2 ⟨ρ2.o, ρ1.p⟩ (f1.trans ⟨e2.pre, ⟨[], by simp, by simp⟩, e2.keep, e2.there⟩) (rs2.less sub) ⟨D, vs, rfl, SqL.of hv, .inl ⟨nD, (rs1.fresh hD).2⟩, RepDs.less (ρ := ρ2) (ρ1 := ⟨ρ2.o, ρ1.p⟩) rfl hn ra⟩
end
end Ev

namespace Ev
open PySem PySem.Spec L2
open PyProof.Rows (IsTup)
section
variable {G : Gc} {A : Ad} {fa : Nat → Addr} {fd : Nat → FuncData} {c : Calls} {k : Nat}
theorem chkA_nil {N : List Str} {sc : Scope} {as : As} (h : chkA G N sc as [] = true) : as = .nil := by
  cases as with
  | nil => rfl
  | cons => cases h
mutual
theorem sE : ∀ (p : Ex) {N : List Str} {sc : Scope} {X : Cx} {e : Expr}, Cq G A fa fd c k N sc X → chkE G N sc p e = true → PE X e (tE A X.K c p)
  | .bad, _, _, _, _, C, h => fun pins s σ H Q I q => by
    obtain ⟨ρ, S, env, hs, d, S', h, _⟩ := q
    cases h
  | .var i, _, _, _, _, C, h => s_var C h
  | .cst d, _, _, _, _, C, h => s_cst h
  | .glob x d, _, _, _, _, C, h => s_glob C h
  | .newl, _, _, _, _, C, h => s_newl h
  | .newd, _, _, _, _, C, h => s_newd h
  | .tup as, _, _, _, _, C, h => by
    unfold chkE at h
    split at h
    · exact s_tup (sA as C h)
    · cases h
  | .lst as, _, _, _, _, C, h => by
    unfold chkE at h
    split at h
    · exact s_lst (sA as C h)
    · cases h
  | .bin o a b, _, _, _, _, C, h => by
    unfold chkE at h
    split at h
    · simp only [Bool.and_eq_true] at h
      exact s_bin h.1.1 (sE a C h.1.2) (sE b C h.2)
    · cases h
  | .cmp o a b, _, _, _, _, C, h => by
    unfold chkE at h
    split at h
    · simp only [Bool.and_eq_true] at h
      exact s_cmp C.hu h.1.1.1 h.1.1.2 (sE a C h.1.2) (sE b C h.2)
    · cases h
  | .and a b, _, _, _, _, C, h => by
    unfold chkE at h
    split at h
    · rw [Bool.and_eq_true] at h
      exact s_and (sE a C h.1) (pe_one (sE b C h.2))
    · rw [Bool.and_eq_true] at h
      exact s_and (sE a C h.1) (sE b C h.2)
    · cases h
  | .or a b, _, _, _, _, C, h => by
    unfold chkE at h
    split at h
    · rw [Bool.and_eq_true] at h
      exact s_or (sE a C h.1) (pe_one (sE b C h.2))
    · rw [Bool.and_eq_true] at h
      exact s_or (sE a C h.1) (sE b C h.2)
    · cases h
  | .not a, _, _, _, _, C, h => by
    unfold chkE at h
    split at h
    · exact s_not (sE a C h)
    · cases h
  | .neg a, _, _, _, _, C, h => by
    unfold chkE at h
    split at h
    · exact s_neg (sE a C h)
    · cases h
  | .ite t a b, _, _, _, _, C, h => by
    unfold chkE at h
    split at h
    · simp only [Bool.and_eq_true] at h
      exact s_ite (sT t C h.1.1) (sE a C h.1.2) (sE b C h.2)
    · cases h
  | .idx a b, _, _, _, _, C, h => by
    unfold chkE at h
    split at h
    · simp only [Bool.and_eq_true] at h
      exact s_idx h.1.1 (sE a C h.1.2) (sE b C h.2)
    · cases h
  | .sl a lo hi, _, _, _, _, C, h => by
    unfold chkE at h
    split at h
    · simp only [Bool.and_eq_true] at h
      exact s_sl (sE a C h.1.1) (sP lo C h.1.2) (sP hi C h.2)
    · cases h
  | .gdict x kvs p, _, _, _, _, C, h => by
    unfold chkE at h
    split at h
    · simp only [Bool.and_eq_true] at h
      obtain ⟨⟨⟨⟨⟨h1, h2⟩, h3⟩, h4⟩, h5⟩, h6⟩ := h
      have h2 := of_decide_eq_true h2
      subst h2
      exact s_gdict C h1 h3 h4 (by simpa using h5) (sE p C h6)
    · cases h
  | .gtix x xs p, _, _, _, _, C, h => by
    unfold chkE at h
    split at h
    · simp only [Bool.and_eq_true] at h
      obtain ⟨⟨⟨⟨⟨⟨⟨h0, h1⟩, h2⟩, h3⟩, h4⟩, h5⟩, h7⟩, h6⟩ := h
      have h2 := of_decide_eq_true h2
      have h0 := of_decide_eq_true h0
      subst h2
      subst h0
      exact s_gtix C h1 h7 h3 h4 (by simpa using h5) (sE p C h6)
    · cases h
  | .call f as, _, _, _, _, C, h => by
    unfold chkE at h
    split at h
    · simp only [Bool.and_eq_true] at h
      obtain ⟨⟨⟨h1, h2⟩, h3⟩, h4⟩ := h
      exact s_call C h1 h2 h3 (chkA_star h4) (fun z => chkA_nil (z ▸ h4)) (sA as C h4)
    · cases h
  | .meth Ci f o as, _, _, _, _, C, h => by
    unfold chkE at h
    split at h
    · simp only [Bool.and_eq_true] at h
      obtain ⟨⟨⟨⟨⟨⟨⟨h1, h2⟩, h3⟩, h4⟩, h5⟩, h6⟩, h7⟩, h8⟩ := h
      exact s_meth C h1 h2 (of_decide_eq_true h3) h4 h5 (of_decide_eq_true h6) (chkA_star h8) (fun z => chkA_nil (z ▸ h8)) (sE o C h7) (sA as C h8)
    · cases h
  | .make Ci f as, _, _, _, _, C, h => by
    unfold chkE at h
    split at h
    · simp only [Bool.and_eq_true] at h
      obtain ⟨⟨⟨⟨h1, h2⟩, h3⟩, h4⟩, h5⟩ := h
      exact s_make C h1 (of_decide_eq_true h2) h3 h4 (chkA_star h5) (fun z => chkA_nil (z ▸ h5)) (sA as C h5)
    · cases h
  | .fld Ci o f, _, _, _, _, C, h => by
    unfold chkE at h
    split at h
    · simp only [Bool.and_eq_true] at h
      obtain ⟨⟨⟨h1, h2⟩, h3⟩, h4⟩ := h
      exact s_fld C (of_decide_eq_true h1) (of_decide_eq_true h2) h3 (sE o C h4)
    · cases h
  | .blt o as, _, _, _, _, C, h => by
    unfold chkE at h
    split at h
    · simp only [Bool.and_eq_true] at h
      obtain ⟨⟨h1, h2⟩, h3⟩ := h
      exact s_blt C h1 h2 (chkA_star h3) (sA as C h3)
    · cases h
  | .bm o a as, N, sc, X, _, C, h => by
    unfold chkE at h
    split at h
    · rename_i ob m apos e1 es cpos
      simp only [Bool.and_eq_true] at h
      obtain ⟨⟨⟨⟨⟨h1, h2⟩, h3⟩, h4⟩, h5⟩, h6⟩ := h
      exact s_bm C h1 h2 h3 (of_decide_eq_true h4) (chkA_star h6) (sE a C h5) (sA as C h6)
    · cases h
  | .dget o p d, _, _, _, _, C, h => by
    unfold chkE at h
    split at h
    · simp only [Bool.and_eq_true] at h
      obtain ⟨⟨⟨⟨⟨⟨⟨h1, h2⟩, h3⟩, h4⟩, h5⟩, h6⟩, h7⟩, h8⟩ := h
      have h1 := of_decide_eq_true h1
      subst h1
      exact s_dget C h2 h3 h4 h5 (sE o C h6) (sE p C h7) (sE d C h8)
    · cases h
  | .comp src tg ts elt own, N, sc, X, _, C, h => by
    unfold chkE at h
    split at h
    · rename_i elt' g scope pos
      simp only [Bool.and_eq_true] at h
      obtain ⟨⟨⟨⟨⟨⟨⟨⟨h1, h2⟩, h3⟩, h4⟩, h5⟩, h6⟩, h9⟩, h7⟩, h8⟩ := h
      obtain ⟨tg', iter, ifs, asy⟩ := g
      have h1 := of_decide_eq_true h1
      have h5 := of_decide_eq_true h5
      simp only at h1 h2 h3 h6 h7
      subst h1
      have hown : ∀ i ∈ tgI tg, i ∈ own := fun i hi => of_decide_eq_true (List.all_eq_true.mp h9 i hi)
      have blk : BlkOk X.N X.env.scope scope (ownL N own) := by rw [C.eN, C.eS]; exact blkOk_by h4
      refine impE (pe_lc (own := ownL N own) (wi := tI A X.K c src) (g := gTg X.K tg) (tt := tTq A X.K c ts) (te := tE A X.K c elt) C.calm (by rw [C.eN]; exact C.nd) (sSr src C h3) blk
        (fun s H D cl fp => g_tg (C.blk s H scope D cl fp).calm (C.blk s H scope D cl fp).eN (C.blk s H scope D cl fp).eS C.nd (fun x hx => hx) h6)
        (fun s H D cl fp => sTq ts (C.blk s H scope D cl fp) h7) (fun s H D cl fp => sE elt (C.blk s H scope D cl fp) h8) (folded_ok h2)) fun σ H Q h => ?_
      rw [h5]
      exact lc_run hown h
    · cases h
theorem sA : ∀ (as : As) {N : List Str} {sc : Scope} {X : Cx} {es : List Expr}, Cq G A fa fd c k N sc X → chkA G N sc as es = true → PA X es (tA A X.K c as)
  | .nil, _, _, _, es, C, h => by
    unfold chkA at h
    split at h
    · exact s_anil
    · cases h
  | .cons p r, _, _, _, es, C, h => by
    unfold chkA at h
    split at h
    · simp only [Bool.and_eq_true] at h
      exact s_acons (sE p C h.1.2) (sA r C h.2) h.1.1
    · cases h
theorem sP : ∀ (p : Pa) {N : List Str} {sc : Scope} {X : Cx} {o : Option Expr}, Cq G A fa fd c k N sc X → chkP G N sc p o = true → PO X o (tP A X.K c p)
  | .none, _, _, _, o, C, h => by
    unfold chkP at h
    split at h
    · exact s_pnone
    · cases h
  | .some p, _, _, _, o, C, h => by
    unfold chkP at h
    split at h
    · exact s_psome (sE p C h)
    · cases h
theorem sT : ∀ (t : Ts) {N : List Str} {sc : Scope} {X : Cx} {e : Expr}, Cq G A fa fd c k N sc X → chkT G N sc t e = true → PT X e (tT A X.K c t)
  | .and a b, _, _, _, _, C, h => by
    unfold chkT at h
    split at h
    · rw [Bool.and_eq_true] at h
      exact t_and (sT a C h.1) (pw_and1 (sT b C h.2))
    · rw [Bool.and_eq_true] at h
      exact t_and (sT a C h.1) (pw_of_pt (sT b C h.2))
    · cases h
  | .or a b, _, _, _, _, C, h => by
    unfold chkT at h
    split at h
    · rw [Bool.and_eq_true] at h
      exact t_or (sT a C h.1) (pw_or1 (sT b C h.2))
    · rw [Bool.and_eq_true] at h
      exact t_or (sT a C h.1) (pw_of_pt (sT b C h.2))
    · cases h
  | .not a, _, _, _, _, C, h => by
    unfold chkT at h
    split at h
    · exact t_not (sT a C h)
    · cases h
  | .val p, _, _, _, _, C, h => by
    unfold chkT at h
    rw [Bool.and_eq_true] at h
    exact t_val h.1 (sE p C h.2)
  | .cmp o a b, _, _, _, _, C, h => by
    unfold chkT at h
    split at h
    · simp only [Bool.and_eq_true] at h
      exact t_cmp C.hu h.1.1.1 h.1.1.2 (sE a C h.1.2) (sE b C h.2)
    · cases h
theorem sTq : ∀ (t : Tq) {N : List Str} {sc : Scope} {X : Cx} {es : List Expr}, Cq G A fa fd c k N sc X → chkTq G N sc t es = true → PTs X es (tTq A X.K c t)
  | .none, _, _, _, es, C, h => by
    unfold chkTq at h
    split at h
    · exact t_qnone
    · cases h
  | .some t, _, _, _, es, C, h => by
    unfold chkTq at h
    split at h
    · exact t_qsome (sT t C h)
    · cases h
theorem sSr : ∀ (s : Sr) {N : List Str} {sc : Scope} {X : Cx} {e tg : Expr}, Cq G A fa fd c k N sc X → chkSr G N sc s e tg = true → PI X tg e (tI A X.K c s)
  | .seq p, _, _, _, _, _, C, h => by
    unfold chkSr at h
    exact i_seq (sE p C h)
  | .range1 p, _, _, _, _, _, C, h => by
    unfold chkSr at h
    split at h
    · simp only [Bool.and_eq_true] at h
      obtain ⟨⟨⟨h1, h2⟩, h3⟩, h4⟩ := h
      have h1 := of_decide_eq_true h1
      subst h1
      exact i_range1 C h2 h3 (sE p C h4)
    · cases h
  | .range2 p q, _, _, _, _, _, C, h => by
    unfold chkSr at h
    split at h
    · simp only [Bool.and_eq_true] at h
      obtain ⟨⟨⟨⟨⟨h1, h2⟩, h3⟩, h4⟩, h5⟩, h6⟩ := h
      have h1 := of_decide_eq_true h1
      subst h1
      exact i_range2 C h2 h3 h4 (sE p C h5) (sE q C h6)
    · cases h
  | .enum p, _, _, _, _, _, C, h => by
    unfold chkSr at h
    split at h
    · simp only [Bool.and_eq_true] at h
      obtain ⟨⟨⟨⟨h1, h2⟩, h3⟩, h4⟩, h5⟩ := h
      have h1 := of_decide_eq_true h1
      subst h1
      exact i_enum C h2 h3 h4 (sE p C h5)
    · cases h
  | .zip p q, _, _, _, _, _, C, h => by
    unfold chkSr at h
    split at h
    · simp only [Bool.and_eq_true] at h
      obtain ⟨⟨⟨⟨⟨⟨h1, h2⟩, h3⟩, h4⟩, h5⟩, h6⟩, h7⟩ := h
      have h1 := of_decide_eq_true h1
      subst h1
      exact i_zip C h2 h3 h4 h5 (sE p C h6) (sE q C h7)
    · cases h
end
end
end Ev

namespace Ev
open PySem PySem.Spec L2
open PyProof.Rows (IsTup)
/-! ### statements against the text -/
def noComp : Expr → Bool
  | .ListComp _ _ _ _ => false | .SetComp _ _ _ _ => false | .DictComp _ _ _ _ _ => false | _ => true
def noTup : Expr → Bool
  | .Tuple _ _ _ => false | _ => true
/-- a comprehension's list is stored within its own frame -/
def swC (sc : Scope) (x : Str) (py : Pos) : Expr → Bool
  | .ListComp _ [_] scope pos => decide (sc.kind = .function) && decide (sc.names.lookup x = some .local) && (py.line == pos.line) && !(scope.names.any fun (n, k) => n == x && (k == .local || k == .cell))
  | _ => false
def locName (N : List Str) (sc : Scope) (line : Nat) : List Nat → List Expr → Option (List Str)
  | [], [] => some []
  | i :: is, .Name x p :: es => if N[i]? = some x && sc.names.lookup x = some .local && p.line == line then (locName N sc line is es).map fun xs => x :: xs else none
  | _, _ => none
def line1 : List Expr → Nat
  | e :: _ => e.pos.line | [] => 0
/-- x, y = a, b: stored from the right, no tuple is seen -/
def parB (N : List Str) (sc : Scope) (is : List Nat) (ts vs : List Expr) : Bool :=
  decide (sc.kind = .function) && (decide (ts.length = 2) || decide (ts.length = 3)) && decide (vs.length = ts.length) && vs.all noStar && !(vs.all (foldedForSure 8)) && !(vs.all (constantsAlone 8)) &&
    match locName N sc (line1 ts) is ts with
    | some xs => decide (xs.eraseDups.length = xs.length)
    | none => false
mutual
def chkS (G : Gc) (N : List Str) (sc : Scope) : Sm → Stmt → Bool
  | .bad, _ => true
  | .ex p, s => match s with
    | .Expr e _ => noComp e && chkE G N sc p e
    | _ => false
  | .ret p, s => match s with
    | .Return (some e) _ => chkE G N sc p e
    | _ => false
  | .retN, s => match s with
    | .Return none _ => true
    | _ => false
  | .set i p, s => match s with
    | .Assign [.Name x py] e _ => decide (N[i]? = some x) && locB sc (fun _ => true) x && (noComp e || decide (sc.names.lookup x = some .cell) || swC sc x py e) && chkE G N sc p e
    | _ => false
  | .unp is p, s => match s with
    | .Assign [.Tuple es _ _] e _ => noComp e && noTup e && tgsB N sc (fun _ => true) is es && chkE G N sc p e
    | _ => false
  | .par is as, s => match s with
    | .Assign [.Tuple ts _ _] (.Tuple vs _ _) _ => parB N sc is ts vs && chkA G N sc as vs
    | _ => false
  | .fld C o f p, s => match s with
    | .Assign [.Attribute ob x _] e _ => decide (G.attrs[f]? = some x) && decide (C < G.cls.length) && chkE G N sc o ob && chkE G N sc p e
    | _ => false
  | .dput o k p, s => match s with
    | .Assign [.Subscript ob ke _] e _ => chkE G N sc o ob && chkE G N sc k ke && chkE G N sc p e
    | _ => false
  | .aug o i p, s => match s with
    | .AugAssign (.Name x _) op e _ => decide (o = .add) && decide (op = .Add) && decide (N[i]? = some x) && locB sc (fun _ => true) x && chkE G N sc p e
    | _ => false
  | .ite t a b, s => match s with
    | .If e as bs _ => chkT G N sc t e && chkSs G N sc a as && chkSs G N sc b bs
    | _ => false
  | .for src tg b, s => match s with
    | .For t e bs [] _ => noSet e && chkSr G N sc src e t && chkTg N sc (fun _ => true) tg t && chkSs G N sc b bs
    | _ => false
  | .while t b, s => match s with
    | .While e bs [] _ => chkT G N sc t e && chkSs G N sc b bs
    | _ => false
  | .brk, s => match s with
    | .Break _ => true
    | _ => false
  | .cont, s => match s with
    | .Continue _ => true
    | _ => false
  | .doc, s => match s with
    | .Pass _ => true
    | _ => false
def chkSs (G : Gc) (N : List Str) (sc : Scope) : Ss → List Stmt → Bool
  | .nil, ss => match ss with
    | [] => true
    | _ => false
  | .cons p r, ss => match ss with
    | s :: ss => chkS G N sc p s && chkSs G N sc r ss
    | _ => false
end
/-! ### readings -/
def EndS (A : Ad) (K : PySem.W.Frag) (D : Ends) (σ' : L2.St) (H' : Hp) (ρ' : Lc) : Fl → Prop
  | .nx => D.nx σ' H'
  | .brk => D.bk σ' H'
  | .cont => D.ct σ' H'
  | .ret d => ∀ v, RepD K H' ρ' d v → D.rt v H'
def PostS (A : Ad) (K : PySem.W.Frag) (D : Ends) (H : Hp) (ρ : Lc) (r : Res (Fl × Nv)) : Prop := ∃ fl env' S', r = .ok (fl, env') S' ∧ ∀ σ' H' ρ', Ext H ρ H' ρ' → RepS A K H' ρ' S' → RepE K H' ρ' env' σ' → EndS A K D σ' H' ρ' fl
def tS (A : Ad) (K : PySem.W.Frag) (c : Calls) (p : Sm) : TS := fun D σ H => ∃ ρ S env, Rs A K H ρ S env σ ∧ PostS A K D H ρ (evS c p env S)
def tSs (A : Ad) (K : PySem.W.Frag) (c : Calls) (p : Ss) : TS := fun D σ H => ∃ ρ S env, Rs A K H ρ S env σ ∧ PostS A K D H ρ (evSs c p env S)
theorem swaps_ok {e : Expr} {t : Option Expr} {l : Nat} {env : Env} (h : noComp e = true) : swapsWith e t l env = pure false := by
  cases e <;> first | rfl | cases h
theorem swaps_cell {e : Expr} {x : Str} {p : Pos} {l : Nat} {env : Env} (h : env.kindOf x = some .cell) : swapsWith e (some (.Name x p)) l env = pure false := by
  cases e <;> first
    | rfl
    | (show (pure (env.blockKind == .function && env.kindOf x == some .local && _ && _) : Sem Bool) = pure false
       rw [h]
       have z : ((some NameKind.cell : Option NameKind) == some NameKind.local) = false := by decide
       rw [z, Bool.and_false, Bool.false_and, Bool.false_and])
theorem swaps_attr {e o : Expr} {f : Str} {p : Pos} {l : Nat} {env : Env} : swapsWith e (some (.Attribute o f p)) l env = pure false := by
  cases e <;> rfl
theorem swaps_sub {e o i : Expr} {p : Pos} {l : Nat} {env : Env} : swapsWith e (some (.Subscript o i p)) l env = pure false := by
  cases e <;> rfl
theorem swapped_ok {e : Expr} {es : List Expr} {kt : Nat} {p : Pos} {env : Env} (h : noTup e = true) : swappedStores [.Tuple es kt p] e env = pure none := by
  cases e <;> first | rfl | cases h
structure Cs (G : Gc) (A : Ad) (fa : Nat → Addr) (fd : Nat → FuncData) (c : Calls) (k : Nat) (N : List Str) (sc : Scope) (X : Cx) : Prop extends Cq G A fa fd c k N sc X where
  xe : X.xe = fun _ _ => False
  fn : ∀ x, X.fn x = true
section
variable {G : Gc} {A : Ad} {fa : Nat → Addr} {fd : Nat → FuncData} {c : Calls} {k : Nat} {N : List Str} {sc : Scope} {X : Cx}
theorem Cs.own (C : Cs G A fa fd c k N sc X) : PassesOwn (model X.prog X.w) X.A X.env X.xe := by
  rw [C.xe]
  exact PassesOwn.never
theorem x_ex {p : Ex} {e : Expr} {pos : Pos} (hn : noComp e = true) (he : PE X e (tE A X.K c p)) : PS X (.Expr e pos) (tS A X.K c (.ex p)) := impS (ps_expr he (swaps_ok hn)) fun D σ H h => by
  obtain ⟨ρ, S, env, hs, fl, env', S', h, q⟩ := h
  rw [evS] at h
  obtain ⟨d, S1, h1, h2⟩ := Res.bind_ok h
  cases h2
  exact ⟨ρ, S, env, hs, d, _, h1, fun v H1 ρ1 e1 rs1 rd1 => q σ H1 ρ1 e1 rs1 (hs.re.ext e1)⟩
theorem x_ret {p : Ex} {e : Expr} {pos : Pos} (he : PE X e (tE A X.K c p)) : PS X (.Return (some e) pos) (tS A X.K c (.ret p)) := impS (ps_ret he) fun D σ H h => by
  obtain ⟨ρ, S, env, hs, fl, env', S', h, q⟩ := h
  rw [evS] at h
  obtain ⟨d, S1, h1, h2⟩ := Res.bind_ok h
  cases h2
  exact ⟨ρ, S, env, hs, d, _, h1, fun v H1 ρ1 e1 rs1 rd1 => q σ H1 ρ1 e1 rs1 (hs.re.ext e1) v rd1⟩
theorem x_retN {pos : Pos} : PS X (.Return none pos) (tS A X.K c .retN) := impS ps_retN fun D σ H h => by
  obtain ⟨ρ, S, env, hs, fl, env', S', h, q⟩ := h
  cases h
  exact q σ H ρ .refl hs.rs hs.re .non rfl
theorem loc_ok (C : Cs G A fa fd c k N sc X) {x : Str} (h : locB sc (fun _ => true) x = true) : Loc X.env.scope x ∧ (X.fn x = true ∨ X.env.scope.names.lookup x = some .local) := by
  unfold locB at h
  rw [Bool.or_eq_true, Bool.and_eq_true] at h
  rw [C.eS]
  rcases h with h | ⟨h, _⟩
  · exact ⟨.inl (of_decide_eq_true h), .inr (of_decide_eq_true h)⟩
  · exact ⟨.inr (of_decide_eq_true h), .inl (C.fn x)⟩
theorem set_run {i : Nat} {p : Ex} {D : Ends} {σ : L2.St} {H : Hp} (h : tS A X.K c (.set i p) D σ H) : tE A X.K c p σ H (fun x H1 => gName i x σ H1 D.nx) := by
  obtain ⟨ρ, S, env, hs, fl, env', S', h, q⟩ := h
  rw [evS] at h
  obtain ⟨d, S1, h1, h2⟩ := Res.bind_ok h
  cases h2
  exact ⟨ρ, S, env, hs, d, _, h1, fun v H1 ρ1 e1 rs1 rd1 => q _ H1 ρ1 e1 rs1 ((hs.re.ext e1).set rd1 i)⟩
theorem x_set (C : Cs G A fa fd c k N sc X) {i : Nat} {x : Str} {p : Ex} {e : Expr} {py pos : Pos} (hi : N[i]? = some x) (hl : locB sc (fun _ => true) x = true) (hn : (noComp e || decide (sc.names.lookup x = some .cell) || swC sc x py e) = true) (hc : chkE G N sc p e = true) : PS X (.Assign [.Name x py] e pos) (tS A X.K c (.set i p)) := by
  obtain ⟨l1, l2⟩ := loc_ok C hl
  have hN : X.N.Nodup := by rw [C.eN]; exact C.nd
  have hi' : X.N[i]? = some x := by rw [C.eN]; exact hi
  by_cases h0 : noComp e = true
  · exact impS (ps_set hN hi' l1 (sE p C.toCq hc) (swaps_ok h0) l2) fun D σ H h => set_run h
  · rw [Bool.or_eq_true, Bool.or_eq_true] at hn
    rcases hn with hn | hn
    · have hk := of_decide_eq_true (hn.resolve_left h0)
      exact impS (ps_set hN hi' l1 (sE p C.toCq hc) (swaps_cell (by show X.env.scope.names.lookup x = _; rw [C.eS]; exact hk)) l2) fun D σ H h => set_run h
    unfold swC at hn
    split at hn
    · rename_i elt' g scope pos'
      simp only [Bool.and_eq_true, Bool.not_eq_true'] at hn
      obtain ⟨⟨⟨k1, k2⟩, k3⟩, k4⟩ := hn
      have k2 := of_decide_eq_true k2
      cases p with
      | comp src tg ts elt own =>
        unfold chkE at hc
        simp only [Bool.and_eq_true] at hc
        obtain ⟨⟨⟨⟨⟨⟨⟨⟨h1, h2⟩, h3⟩, h4⟩, h5⟩, h6⟩, h9⟩, h7⟩, h8⟩ := hc
        obtain ⟨tg', iter, ifs, asy⟩ := g
        have h1 := of_decide_eq_true h1
        have h5 := of_decide_eq_true h5
        simp only at h1 h2 h3 h6 h7
        subst h1
        have hown : ∀ i ∈ tgI tg, i ∈ own := fun i hi => of_decide_eq_true (List.all_eq_true.mp h9 i hi)
        have blk : BlkOk X.N X.env.scope scope (ownL N own) := by rw [C.eN, C.eS]; exact blkOk_by h4
        have C' := C.toCq
        refine impS (ps_setLc (own := ownL N own) (wi := tI A X.K c src) (g := gTg X.K tg) (tt := tTq A X.K c ts) (te := tE A X.K c elt) C.calm hN hi' (by rw [C.eS]; exact k2)
          (sw_true (by rw [C.eS]; exact of_decide_eq_true k1) (by rw [C.eS]; exact k2) k3 k4) (sSr src C' h3) blk
          (fun s H D cl fp => g_tg (C'.blk s H scope D cl fp).calm (C'.blk s H scope D cl fp).eN (C'.blk s H scope D cl fp).eS C.nd (fun x hx => hx) h6)
          (fun s H D cl fp => sTq ts (C'.blk s H scope D cl fp) h7) (fun s H D cl fp => sE elt (C'.blk s H scope D cl fp) h8) (folded_ok h2)) fun D σ H h => ?_
        rw [h5]
        exact lc_run hown (set_run h)
      | bad =>
        intro pins s σ H D I q
        obtain ⟨ρ, S, env, hs, fl, env', S', h, _⟩ := q
        cases h
      | _ => (unfold chkE at hc; cases hc)
    · cases hn
theorem x_unp (C : Cs G A fa fd c k N sc X) {is : List Nat} {p : Ex} {es : List Expr} {e : Expr} {kt : Nat} {pt pos : Pos} (h1 : noComp e = true) (h2 : noTup e = true) (h3 : tgsB N sc (fun _ => true) is es = true) (he : PE X e (tE A X.K c p)) : PS X (.Assign [.Tuple es kt pt] e pos) (tS A X.K c (.unp is p)) := by
  have hg : PG X (.Tuple es kt pt) (gTg X.K (.tup is)) := g_tg (N := N) (sc := sc) (fn := fun _ => true) C.calm C.eN C.eS C.nd (fun x _ => C.fn x) (tg := .tup is) h3
  refine impS (ps_asg he hg (show swapsWith e (some (.Tuple es kt pt)) pos.line X.env = pure false from swaps_ok h1) (swapped_ok h2) rfl) fun D σ H h => ?_
  obtain ⟨ρ, S, env, hs, fl, env', S', h, q⟩ := h
  rw [evS] at h
  obtain ⟨d, S1, h4, h5⟩ := Res.bind_ok h
  refine ⟨ρ, S, env, hs, d, S1, h4, fun v H1 ρ1 e1 rs1 rd1 => ?_⟩
  split at h5
  · rename_i env2 hst
    cases h5
    exact gTg_run (hs.re.ext e1) rd1 hst fun σ' re' _ => q σ' H1 ρ1 e1 rs1 re'
  · cases h5
theorem x_fld (C : Cs G A fa fd c k N sc X) {Ci f : Nat} {o p : Ex} {ob e : Expr} {x : Str} {pa pos : Pos} (hx : G.attrs[f]? = some x) (hcl : Ci < G.cls.length) (ho : PE X ob (tE A X.K c o)) (he : PE X e (tE A X.K c p)) : PS X (.Assign [.Attribute ob x pa] e pos) (tS A X.K c (.fld Ci o f p)) := by
  obtain ⟨cl, _, na⟩ := C.gd.cls (List.getElem?_eq_getElem hcl)
  have hx' : A.attrs[f]? = some x := by rw [C.gd.attrs]; exact hx
  refine impS (ps_fld ho he swaps_attr) fun D σ H h => ?_
  obtain ⟨ρ, S, env, hs, fl, env', S', h, q⟩ := h
  rw [evS] at h
  obtain ⟨d, S1, h1, h2⟩ := Res.bind_ok h
  clear h
  obtain ⟨y, S2, h3, h4⟩ := Res.bind_ok h2
  clear h2
  refine ⟨ρ, S, env, hs, d, S1, h1, fun v H1 ρ1 e1 rs1 rd1 => ⟨ρ1, S1, env, hs.ext e1 rs1, y, S2, h3, fun w H2 ρ2 e2 rs2 rd2 => ?_⟩⟩
  split at h4
  · split at h4
    · rename_i C' fs hn
      split at h4
      · rename_i hc
        subst hc
        obtain ⟨hlen, e5, rfl⟩ := okV_ok h4
        cases e5
        obtain ⟨a, rfl, ea, dx, us, hH, rF⟩ := obj_at rs2 rd2 hn
        refine ⟨a, A.cl C', dx, us, rfl, hH, cl, na x (List.mem_of_getElem? hx'), by rw [repF_len rF]; exact of_decide_eq_true hlen, ?_⟩
        obtain ⟨q1, q2⟩ := rs2.write ea (u := .ins (A.cl C') dx (putF x v us)) (o := .ins C' (putFD f d fs)) fun ff fs' => ⟨dx, _, upd_same, repF_put C.gd.nd hx' (ff _ _ (rd1.ext e2)) (L2.Paired.mapP rF fun p q z => ⟨z.1, ff _ _ z.2⟩)⟩
        exact q σ _ ρ2 ((e1.trans e2).trans q2) q1 (((hs.re.ext e1).ext e2).ext q2)
      · cases h4
    · cases h4
  · cases h4
theorem put_rep {K : PySem.W.Frag} {H : Hp} {ρ : Lc} {kvs : List (List Ky × D)} {us : List (List Key × V)} (r : RepK K H ρ kvs us) (ks : List Ky) {d : D} {v : V} (h : RepD K H ρ d v) : RepK K H ρ (putD kvs ks d) (putK us (ks.map kyK) v) := by
  have any : ∀ {kvs : List (List Ky × D)} {us : List (List Key × V)}, RepK K H ρ kvs us → (kvs.any fun kv => decide (kv.1 = ks)) = (us.any fun kv => decide (kv.1 = ks.map kyK)) := by
    intro kvs us r
    induction r with
    | nil => rfl
    | cons h t ih =>
      rw [List.any_cons, List.any_cons, ih]
      congr 1
      rw [h.1, Bool.eq_iff_iff]
      simp only [decide_eq_true_eq]
      exact ⟨fun z => by rw [z], fun z => kyKs_inj z⟩
  unfold putD putK
  rw [any r]
  split
  · rename_i z
    clear any z
    induction r with
    | nil => exact .nil
    | @cons p q ps qs hp t ih =>
      refine .cons ?_ ih
      show (if q.1 = ks.map kyK then (q.1, v) else q).1 = (if p.1 = ks then (p.1, d) else p).1.map kyK ∧ RepD K H ρ (if p.1 = ks then (p.1, d) else p).2 (if q.1 = ks.map kyK then (q.1, v) else q).2
      by_cases e : p.1 = ks
      · rw [if_pos e, if_pos (by rw [hp.1, e])]
        exact ⟨hp.1, h⟩
      · rw [if_neg e, if_neg fun z => e (kyKs_inj (hp.1.symm.trans z))]
        exact hp
  · rename_i z
    clear any z
    induction r with
    | nil => exact .cons ⟨rfl, h⟩ .nil
    | cons hp t ih => exact .cons hp ih
theorem x_dput (C : Cs G A fa fd c k N sc X) {o kx p : Ex} {ob ke e : Expr} {pa pos : Pos} (ho : PE X ob (tE A X.K c o)) (hk : PE X ke (tE A X.K c kx)) (he : PE X e (tE A X.K c p)) : PS X (.Assign [.Subscript ob ke pa] e pos) (tS A X.K c (.dput o kx p)) := by
  refine impS (ps_dput (hu_of C.room) ho hk he swaps_sub) fun D σ H h => ?_
  obtain ⟨ρ, S, env, hs, fl, env', S', h, q⟩ := h
  rw [evS] at h
  obtain ⟨d, S1, h1, h2⟩ := Res.bind_ok h
  clear h
  obtain ⟨y, S2, h3, h4⟩ := Res.bind_ok h2
  clear h2
  obtain ⟨z, S3, h5, h6⟩ := Res.bind_ok h4
  clear h4
  refine ⟨ρ, S, env, hs, d, S1, h1, fun v H1 ρ1 e1 rs1 rd1 => ⟨ρ1, S1, env, hs.ext e1 rs1, y, S2, h3, fun w H2 ρ2 e2 rs2 rd2 => ⟨ρ2, S2, env, hs.ext (e1.trans e2) rs2, z, S3, h5, fun u H3 ρ3 e3 rs3 rd3 => ?_⟩⟩⟩
  split at h6
  · split at h6
    · rename_i kvs ks' hn hk'
      obtain ⟨hlen, e5, rfl⟩ := okV_ok h6
      cases e5
      obtain ⟨a, rfl, ea, us, hH, rK⟩ := obj_at rs3 (rd2.ext e3) hn
      obtain ⟨b, rfl, hb'⟩ := way_at hk' rd3
      have hl : us.length < sizeLine := by
        have := Paired.length rK
        rw [line_eq, ← this]
        exact of_decide_eq_true hlen
      refine ⟨a, _, rfl, DPut.t hH hb' hl, ?_⟩
      obtain ⟨q1, q2⟩ := rs3.write ea (u := .dT (putK us (ks'.map kyK) v)) (o := .dct (putD kvs ks' d)) fun ff fs' => ⟨_, upd_same, put_rep (L2.Paired.mapP rK fun p q z => ⟨z.1, ff _ _ z.2⟩) ks' (ff _ _ ((rd1.ext e2).ext e3))⟩
      exact q σ _ ρ3 (((e1.trans e2).trans e3).trans q2) q1 ((((hs.re.ext e1).ext e2).ext e3).ext q2)
    · cases h6
  · cases h6
theorem x_aug (C : Cs G A fa fd c k N sc X) {i : Nat} {x : Str} {p : Ex} {e : Expr} {px pos : Pos} (hi : N[i]? = some x) (hl : locB sc (fun _ => true) x = true) (he : PE X e (tE A X.K c p)) : PS X (.AugAssign (.Name x px) .Add e pos) (tS A X.K c (.aug .add i p)) := by
  obtain ⟨l1, l2⟩ := loc_ok C hl
  refine impS (ps_aug (i := i) (by rw [C.eN]; exact C.nd) (by rw [C.eN]; exact hi) l1 he ip_add l2) fun D σ H h => ?_
  obtain ⟨ρ, S, env, hs, fl, env', S', h, q⟩ := h
  rw [evS] at h
  split at h
  · rename_i d hd
    obtain ⟨y, S1, h1, h2⟩ := Res.bind_ok h
    obtain ⟨v, e1, e2⟩ := hs.re.at_ hd
    refine ⟨v, e1, ρ, S, env, hs, y, S1, h1, fun w H1 ρ1 f1 rs1 rd1 => ?_⟩
    split at h2
    · cases h2
      cases e2
      cases rd1
      exact ⟨_, _, rfl, rfl, q _ H1 ρ1 f1 rs1 ((hs.re.ext f1).set (show RepD X.K H1 ρ1 (.int _) (.int _) from rfl) i)⟩
    · cases h2
  · cases h
end
end Ev

namespace Ev
open PySem PySem.Spec L2
open PyProof.Rows (IsTup assignInOrder_nil assignInOrder_cons)
section
variable {G : Gc} {A : Ad} {fa : Nat → Addr} {fd : Nat → FuncData} {c : Calls} {k : Nat} {N : List Str} {sc : Scope} {X : Cx}
/-! ### several names at once -/
def setV : List Nat → List V → L2.St → L2.St
  | i :: is, v :: vs, σ => setV is vs (σ.set i (some v))
  | _, _, σ => σ
theorem setV_rep {K : PySem.W.Frag} {H : Hp} {ρ : Lc} : ∀ {is : List Nat} {ds : List D} {vs : List V} {env env' : Nv} {σ : L2.St}, RepE K H ρ env σ → RepDs K H ρ ds vs → setAll is ds env = some env' → RepE K H ρ env' (setV is vs σ)
  | [], ds, _, _, _, _, re, rd, h => by
    cases ds with
    | nil => cases h; exact re
    | cons => cases h
  | i :: is, ds, _, _, _, _, re, rd, h => by
    cases ds with
    | nil => cases h
    | cons d ds =>
      obtain ⟨v, r, rfl, h1, h2⟩ := rd
      exact setV_rep (is := is) (ds := ds) (re.set h1 i) h2 h
/-- names and places, each a local -/
def Locs (X : Cx) (is : List Nat) (xs : List Str) : Prop := Paired (fun i x => X.N[i]? = some x ∧ X.env.scope.names.lookup x = some .local) is xs
theorem stores_ok (hN : X.N.Nodup) {pins : List (Addr × Obj)} {H : Hp} {E : Value → Shared → Prop} {Q : Unit → Shared → Prop} : ∀ {is : List Nat} {xs : List Str} {vs : List V} {us : List Value} {σ : L2.St} {s : Shared}, Locs X is xs → Vals vs us → vs.length = is.length → L2.Inv X pins σ H s → (∀ s', L2.Inv X pins (setV is vs σ) H s' → Q () s') →
    wpAny (model X.prog X.w) X.A (assignInOrder (xs.map fun n v => bindName X.env n v) us) Q E s
  | _, _, _, _, _, _, .nil, .nil, _, I, q => assignInOrder_nil (q _ I)
  | _, _, _, _, _, _, .nil, .cons _ _, h, _, _ => by simp at h
  | _, _, _, _, _, _, .cons _ _, .nil, h, _, _ => by simp at h
  | _, _, _, _, _, _, .cons l t, .cons r rr, h, I, q => by
    refine assignInOrder_cons (wpAny_bindName (store_ok I hN l.1 (.inl l.2) r (fun s' I' => ?_) (.inr l.2)))
    exact stores_ok hN t rr (by simpa using h) I' q
theorem locs_rev {is : List Nat} {xs : List Str} (h : Locs X is xs) : Locs X is.reverse xs.reverse := by
  have app : ∀ {is js : List Nat} {xs ys : List Str}, Locs X is xs → Locs X js ys → Locs X (is ++ js) (xs ++ ys) := by
    intro is js xs ys h g
    induction h with
    | nil => exact g
    | cons a t ih => exact .cons a ih
  induction h with
  | nil => exact .nil
  | cons a t ih => rw [List.reverse_cons, List.reverse_cons]; exact app ih (.cons a .nil)
theorem repDs_rev {K : PySem.W.Frag} {H : Hp} {ρ : Lc} {ds : List D} {vs : List V} (h : RepDs K H ρ ds vs) : RepDs K H ρ ds.reverse vs.reverse := by
  induction ds generalizing vs with
  | nil => cases h; exact rfl
  | cons d ds ih =>
    obtain ⟨v, r, rfl, h1, h2⟩ := h
    rw [List.reverse_cons, List.reverse_cons]
    exact (ih h2).append ⟨v, [], rfl, h1, rfl⟩
theorem locName_ok (hN : X.N = N) (hS : X.env.scope = sc) {line : Nat} : ∀ {is : List Nat} {es : List Expr} {xs : List Str}, locName N sc line is es = some xs → Locs X is xs ∧ es.length = xs.length ∧ (es.filterMap fun
    | .Name id pos => if X.env.kindOf id == some .local && pos.line == line then some id else none
    | _ => none) = xs
  | [], [], _, h => by cases h; exact ⟨.nil, rfl, rfl⟩
  | [], _ :: _, _, h => by cases h
  | i :: is, [], _, h => by cases h
  | i :: is, e :: es, xs, h => by
    cases e <;> first | (cases h; done) | skip
    rename_i x p
    unfold locName at h
    split at h
    · rename_i hc
      simp only [Bool.and_eq_true, decide_eq_true_eq] at hc
      obtain ⟨ys, h1, rfl⟩ := Option.map_eq_some_iff.mp h
      obtain ⟨g1, g2, g3⟩ := locName_ok hN hS h1
      have hk : X.env.kindOf x = some .local := by
        show X.env.scope.names.lookup x = _
        rw [hS]; exact hc.1.2
      refine ⟨.cons ⟨by rw [hN]; exact hc.1.1, hk⟩ g1, by simp [g2], ?_⟩
      rw [List.filterMap_cons]
      simp only [hk, hc.2, beq_self_eq_true, Bool.and_self, if_true]
      rw [g3]
    · cases h
theorem noStar_any : ∀ {vs : List Expr}, vs.all noStar = true → (vs.any fun | .Starred .. => true | _ => false) = false
  | [], _ => rfl
  | v :: vs, h => by
    rw [List.all_cons, Bool.and_eq_true] at h
    rw [List.any_cons, noStar_any h.2]
    cases v <;> first | rfl | (have z := h.1; cases z)
theorem swapped_some (hN : X.N = N) (hS : X.env.scope = sc) {is : List Nat} {ts vs : List Expr} {kt k2 : Nat} {pt pt2 : Pos} (h : parB N sc is ts vs = true) : ∃ xs, swappedStores [.Tuple ts kt pt] (.Tuple vs k2 pt2) X.env = pure (some xs) ∧ Locs X is xs ∧ vs.length = xs.length ∧ vs.all noStar = true ∧ vs.length ≤ 3 := by
  unfold parB at h
  simp only [Bool.and_eq_true] at h
  obtain ⟨⟨⟨⟨⟨⟨h1, h2⟩, h3⟩, h4⟩, h5⟩, h6⟩, h7⟩ := h
  have h1 := of_decide_eq_true h1
  have h3 := of_decide_eq_true h3
  cases hl : locName N sc (line1 ts) is ts with
  | none => rw [hl] at h7; cases h7
  | some xs =>
    rw [hl] at h7
    have h7 := of_decide_eq_true h7
    obtain ⟨g1, g2, g3⟩ := locName_ok hN hS hl
    refine ⟨xs, ?_, g1, by omega, h4, ?_⟩
    · have hb : X.env.blockKind = .function := by unfold Env.blockKind; rw [hS, h1]; rfl
      have hst := noStar_any h4
      have hline : (ts.head?.map (·.pos.line)).getD 0 = line1 ts := by cases ts <;> rfl
      have hlen : (!(ts.length == 2 || ts.length == 3)) = false := by
        rw [Bool.or_eq_true] at h2
        rcases h2 with h2 | h2 <;> simp [of_decide_eq_true h2]
      have hcond : (!(ts.length == 2 || ts.length == 3) || vs.length != ts.length || X.env.blockKind != .function) = false := by
        rw [hlen, h3, hb]; simp
      have e6 : vs.all (constantsAlone 8) = false := by simpa using h6
      have e5 : vs.all (foldedForSure 8) = false := by simpa using h5
      have hnm : (xs.length != ts.length || xs.eraseDups.length != xs.length) = false := by rw [g2, h7]; simp
      unfold swappedStores
      show (if (!(ts.length == 2 || ts.length == 3) || vs.length != ts.length || X.env.blockKind != .function) = true then (pure none : Sem (Option (List Str))) else _) = _
      rw [hcond, if_neg Bool.false_ne_true]
      show (if (vs.any _) = true then (pure none : Sem (Option (List Str))) else _) = _
      rw [if_neg (by erw [hst]; exact Bool.false_ne_true)]
      rw [hline]
      have key : ∀ ys : List Str, ys = xs → (if (ys.length != ts.length || ys.eraseDups.length != ys.length) = true then (pure none : Sem (Option (List Str))) else if vs.all (foldedForSure 8) = true then pure none
          else if vs.all (constantsAlone 8) = true then ((unsupported "assign.tuple-of-constant-expressions:order-of-the-stores" : Sem PUnit) >>= fun _ => pure (some ys)) else pure (some ys)) = pure (some xs) := by
        intro ys ey
        subst ey
        rw [hnm, if_neg Bool.false_ne_true, e5, if_neg Bool.false_ne_true, e6, if_neg Bool.false_ne_true]
      exact key _ g3
    · rw [h3]
      rw [Bool.or_eq_true] at h2
      rcases h2 with h2 | h2 <;> have := of_decide_eq_true h2 <;> omega
end
end Ev

namespace Ev
open PySem PySem.Spec L2
open PyProof.Rows (IsTup assignInOrder_nil assignInOrder_cons)
section
variable {G : Gc} {A : Ad} {fa : Nat → Addr} {fd : Nat → FuncData} {c : Calls} {k : Nat} {N : List Str} {sc : Scope} {X : Cx}
theorem x_par (C : Cs G A fa fd c k N sc X) {is : List Nat} {as : As} {ts vs : List Expr} {kt k2 : Nat} {pt pt2 pos : Pos} (h : parB N sc is ts vs = true) (ha : PA X vs (tA A X.K c as)) : PS X (.Assign [.Tuple ts kt pt] (.Tuple vs k2 pt2) pos) (tS A X.K c (.par is as)) := by
  obtain ⟨xs, hw, hloc, hlen, hns, h3⟩ := swapped_some C.eN C.eS (kt := kt) (k2 := k2) (pt := pt) (pt2 := pt2) h
  have hN : X.N.Nodup := by rw [C.eN]; exact C.nd
  intro pins s σ H D I h
  obtain ⟨ρ, S, env, hs, fl, env', S', h, q⟩ := h
  rw [evS] at h
  obtain ⟨ds, S1, h1, h2⟩ := Res.bind_ok h
  clear h
  split at h2
  · rename_i env2 hst
    cases h2
    rw [exec_Assign_arm]
    refine wpAny_bind (wpAny_standAt ?_)
    rw [show swapsWithSole [.Tuple ts kt pt] (.Tuple vs k2 pt2) pos.line X.env = pure false from rfl]
    refine wpAny_bind (wpAny_pure ?_)
    rw [if_neg (by decide)]
    have ilen : is.length = xs.length := Paired.length hloc
    refine wpAny_bind (PyProof.Rows.Tuple_ (thn (ha _ pins s σ H (fun ws H1 => ∃ ρ1, Ext H ρ H1 ρ1 ∧ RepS A X.K H1 ρ1 S' ∧ RepDs X.K H1 ρ1 ds ws) I ⟨ρ, S, env, ds, _, hs, h1, fun ws H1 ρ1 e1 rs1 rd1 => ⟨ρ1, e1, rs1, rd1⟩⟩) fun us s1 ⟨ws, H1, I1, r1, ρ1, e1, rs1, rd1⟩ => ?_))
    have dlen : ds.length = is.length := by
      have := setAll_len hst
      simpa using this
    have wlen : ws.length = is.length := by rw [rd1.length, dlen]
    have ulen : us.length = is.length := by rw [← r1.length, wlen]
    have small : us.length ≤ sizeLine := by rw [sizeLine_eq]; omega
    refine wpAny_newObj_type ?_ small
    have I2 : L2.Inv X pins σ H1 { s1 with heap := s1.heap.push { cls := .type "tuple", data := .seq us.toArray } } := I1.kept (t' := s1.toks) fun b o e => Heap.get?_push_of_some _ e
    rw [hw]
    refine wpAny_bind (wpAny_pure ?_)
    show wpAny (model X.prog X.w) X.A (do rule "assign.swapped-stores"; let items ← unpackItems (.ref s1.heap.objs.size) xs.length none; assignInOrder (xs.reverse.map fun n => bindName X.env n) items.reverse; pure Flow.next) _ _ _
    have e5 : xs.length = us.toArray.size := by rw [List.size_toArray]; omega
    rw [e5]
    refine wpAny_bind (wpAny_rule (wpAny_bind (PyProof.Rows.unpackItems_tuple (items := us.toArray) (I.ok.hd C.calm) (IsTup.new s1.heap _) fun h' hx' => ?_)))
    have I3 := I2.kept (h' := h') (t' := s1.toks) fun b o e => hx' b o (Nat.ne_of_lt (Heap.lt_size e)) e
    refine wpAny_bind (stores_ok hN (locs_rev hloc) (Vals.reverse r1) (by simp [wlen]) I3 fun s2 I4 => wpAny_pure ?_)
    exact ⟨_, H1, I4, q _ H1 ρ1 e1 rs1 (setV_rep (hs.re.ext e1) (repDs_rev rd1) hst)⟩
  · cases h2
theorem x_ite {t : Ts} {a b : Ss} {e : Expr} {as bs : List Stmt} {pos : Pos} (ht : PT X e (tT A X.K c t)) (ha : PSs X as (tSs A X.K c a)) (hb : PSs X bs (tSs A X.K c b)) : PS X (.If e as bs pos) (tS A X.K c (.ite t a b)) := impS (ps_if ht ha hb) fun D σ H h => by
  obtain ⟨ρ, S, env, hs, fl, env', S', h, q⟩ := h
  rw [evS] at h
  obtain ⟨x, S1, h1, h2⟩ := Res.bind_ok h
  refine ⟨ρ, S, env, x, S1, hs, h1, fun H1 ρ1 e1 rs1 => ?_⟩
  cases x with
  | true =>
    rw [if_pos rfl] at h2 ⊢
    exact ⟨ρ1, S1, env, hs.ext e1 rs1, fl, env', S', h2, fun σ' H' ρ' e2 rs2 re2 => q σ' H' ρ' (e1.trans e2) rs2 re2⟩
  | false =>
    rw [if_neg Bool.false_ne_true] at h2 ⊢
    exact ⟨ρ1, S1, env, hs.ext e1 rs1, fl, env', S', h2, fun σ' H' ρ' e2 rs2 re2 => q σ' H' ρ' (e1.trans e2) rs2 re2⟩
theorem PostS.ext {K : PySem.W.Frag} {D : Ends} {H H1 : Hp} {ρ ρ1 : Lc} {r : Res (Fl × Nv)} (h : PostS A K D H ρ r) (e : Ext H ρ H1 ρ1) : PostS A K D H1 ρ1 r := by
  obtain ⟨fl, env', S', h1, q⟩ := h
  exact ⟨fl, env', S', h1, fun σ' H' ρ' e2 rs re => q σ' H' ρ' (e.trans e2) rs re⟩
theorem x_for (C : Cs G A fa fd c k N sc X) {src : Sr} {tg : Tg} {b : Ss} {t e : Expr} {bs : List Stmt} {pos : Pos} (hn : noSet e = true) (hi : PI X t e (tI A X.K c src)) (hg : PG X t (gTg X.K tg)) (hb : PSs X bs (tSs A X.K c b)) : PS X (.For t e bs [] pos) (tS A X.K c (.for src tg b)) := impS (ps_for C.own C.calm hi hg hb (folded_ok hn)) fun D σ H h => by
  obtain ⟨ρ, S, env, hs, h⟩ := h
  rw [evS] at h
  obtain ⟨fl, env', S', h, q⟩ := h
  obtain ⟨ds, S1, h1, h2⟩ := Res.bind_ok h
  clear h
  refine ⟨ρ, S, env, ds, S1, hs, h1, fun J H1 ρ1 f1 rs1 wk => ?_⟩
  have P0 : PostS A X.K D H1 ρ1 (forD (fun σ S => evSs c b σ S) tg ds env S1) := ⟨fl, env', S', h2, fun σ' H' ρ' e2 rs re => q σ' H' ρ' (f1.trans e2) rs re⟩
  refine ⟨fun i m σ H2 => m = ds.length - i ∧ i ≤ ds.length ∧ ∃ ρ2 S2 env2, Ext H1 ρ1 H2 ρ2 ∧ Rs A X.K H2 ρ2 S2 env2 σ ∧ PostS A X.K D H2 ρ2 (forD (fun σ S => evSs c b σ S) tg (ds.drop i) env2 S2), ⟨ds.length, by simp, Nat.zero_le _, ρ1, S1, env, .refl, hs.ext f1 rs1, P0⟩, ?_⟩
  rintro i m σ2 H2 ⟨rfl, hi', ρ2, S2, env2, e2, rs2, P2⟩
  obtain ⟨w1, w2⟩ := wk H2 ρ2 e2 fun a ha => rs2.rs.fresh ha
  by_cases hlt : i < ds.length
  · refine .inr ?_
    have hd : ds[i]? = some ds[i] := List.getElem?_eq_getElem hlt
    obtain ⟨go, yl⟩ := w1 i _ hd
    refine ⟨go, fun σ3 H3 => ∃ ρ2 S2 env2, Ext H1 ρ1 H3 ρ2 ∧ Rs A X.K H3 ρ2 S2 env2 σ3 ∧ PostS A X.K D H3 ρ2 (forD (fun σ S => evSs c b σ S) tg (ds.drop (i + 1)) env2 S2), fun σ3 H3 n3 => ⟨ds.length - (i + 1), by omega, rfl, hlt, n3⟩, fun x H3 y => ?_⟩
    obtain ⟨sm, rx⟩ := yl x H3 y
    obtain ⟨fl2, env3, S3, h3, q3⟩ := P2
    rw [List.drop_eq_getElem_cons hlt] at h3
    unfold forD at h3
    cases hst : setTg tg ds[i] env2 with
    | none => rw [hst] at h3; cases h3
    | some env4 =>
      rw [hst] at h3
      simp only at h3
      obtain ⟨⟨fl5, env5⟩, S5, h5, h6⟩ := Res.bind_ok h3
      clear h3
      have e3 : Ext H2 ρ2 H3 ρ2 := .same sm
      refine gTg_run (rs2.re.ext e3) rx hst fun σ4 re4 _ => ⟨ρ2, S2, env4, ⟨rs2.rs.same sm, re4⟩, fl5, env5, S5, h5, fun σ' H' ρ' e4 rs4 re4' => ?_⟩
      have go2 : forD (fun σ S => evSs c b σ S) tg (ds.drop (i + 1)) env5 S5 = .ok (fl2, env3) S3 → ∃ ρ2 S2 env2, Ext H1 ρ1 H' ρ2 ∧ Rs A X.K H' ρ2 S2 env2 σ' ∧ PostS A X.K D H' ρ2 (forD (fun σ S => evSs c b σ S) tg (ds.drop (i + 1)) env2 S2) := fun z =>
        ⟨ρ', S5, env5, (e2.trans e3).trans e4, ⟨rs4, re4'⟩, fl2, env3, S3, z, fun σ6 H6 ρ6 e6 rs6 re6 => q3 σ6 H6 ρ6 ((e3.trans e4).trans e6) rs6 re6⟩
      cases fl5 with
      | nx => exact go2 h6
      | cont => exact go2 h6
      | brk =>
        cases h6
        exact q3 σ' H' ρ' (e3.trans e4) rs4 re4'
      | ret d =>
        cases h6
        exact q3 σ' H' ρ' (e3.trans e4) rs4 re4'
  · have ei : i = ds.length := by omega
    subst ei
    refine .inl ⟨w2 _ (Nat.le_refl _), ?_⟩
    obtain ⟨fl2, env3, S3, h3, q3⟩ := P2
    rw [List.drop_length] at h3
    cases h3
    exact q3 σ2 H2 ρ2 .refl rs2.rs rs2.re
theorem x_while (C : Cs G A fa fd c k N sc X) {t : Ts} {b : Ss} {e : Expr} {bs : List Stmt} {pos : Pos} (ht : PT X e (tT A X.K c t)) (hb : PSs X bs (tSs A X.K c b)) : PS X (.While e bs [] pos) (tS A X.K c (.while t b)) := impS (ps_while C.own ht hb) fun D σ H h => by
  obtain ⟨ρ, S, env, hs, h⟩ := h
  rw [evS] at h
  refine ⟨fun m σ H => ∃ ρ S env, Rs A X.K H ρ S env σ ∧ PostS A X.K D H ρ (whileD (fun σ S => evT c t σ S) (fun σ S => evSs c b σ S) m env S), ⟨1000, ρ, S, env, hs, h⟩, ?_⟩
  rintro m σ1 H1 ⟨ρ1, S1, env1, rs1, fl, env', S', h1, q⟩
  cases m with
  | zero => cases h1
  | succ m =>
    unfold whileD at h1
    obtain ⟨x, S2, h2, h3⟩ := Res.bind_ok h1
    clear h1
    refine ⟨ρ1, S1, env1, x, S2, rs1, h2, fun H2 ρ2 e2 rs2 => ?_⟩
    cases x with
    | false =>
      rw [if_neg Bool.false_ne_true] at h3
      cases h3
      exact iteF (q σ1 H2 ρ2 e2 rs2 (rs1.re.ext e2))
    | true =>
      rw [if_pos rfl] at h3
      obtain ⟨⟨fl5, env5⟩, S5, h5, h6⟩ := Res.bind_ok h3
      clear h3
      refine iteT ⟨fun σ' H' => ∃ ρ S env, Rs A X.K H' ρ S env σ' ∧ PostS A X.K D H' ρ (whileD (fun σ S => evT c t σ S) (fun σ S => evSs c b σ S) m env S), fun σ' H' w => ⟨m, Nat.lt_succ_self _, w⟩, ρ2, S2, env1, rs1.ext e2 rs2, fl5, env5, S5, h5, fun σ' H' ρ' e4 rs4 re4 => ?_⟩
      have go2 : whileD (fun σ S => evT c t σ S) (fun σ S => evSs c b σ S) m env5 S5 = .ok (fl, env') S' → ∃ ρ S env, Rs A X.K H' ρ S env σ' ∧ PostS A X.K D H' ρ (whileD (fun σ S => evT c t σ S) (fun σ S => evSs c b σ S) m env S) := fun z =>
        ⟨ρ', S5, env5, ⟨rs4, re4⟩, fl, env', S', z, fun σ6 H6 ρ6 e6 rs6 re6 => q σ6 H6 ρ6 ((e2.trans e4).trans e6) rs6 re6⟩
      cases fl5 with
      | nx => exact go2 h6
      | cont => exact go2 h6
      | brk =>
        cases h6
        exact q σ' H' ρ' (e2.trans e4) rs4 re4
      | ret d =>
        cases h6
        exact q σ' H' ρ' (e2.trans e4) rs4 re4
theorem x_nil : PSs X [] (tSs A X.K c .nil) := impSs pss_nil fun D σ H h => by
  obtain ⟨ρ, S, env, hs, fl, env', S', h, q⟩ := h
  cases h
  exact q σ H ρ .refl hs.rs hs.re
theorem x_cons {p : Sm} {r : Ss} {s : Stmt} {ss : List Stmt} (h1 : PS X s (tS A X.K c p)) (h2 : PSs X ss (tSs A X.K c r)) : PSs X (s :: ss) (tSs A X.K c (.cons p r)) := impSs (pss_cons h1 h2) fun D σ H h => by
  obtain ⟨ρ, S, env, hs, fl, env', S', h, q⟩ := h
  rw [evSs] at h
  obtain ⟨⟨fl1, env1⟩, S1, h3, h4⟩ := Res.bind_ok h
  clear h
  refine ⟨ρ, S, env, hs, fl1, env1, S1, h3, fun σ' H' ρ' e1 rs1 re1 => ?_⟩
  cases fl1 with
  | nx => exact ⟨ρ', S1, env1, ⟨rs1, re1⟩, fl, env', S', h4, fun σ2 H2 ρ2 e2 rs2 re2 => q σ2 H2 ρ2 (e1.trans e2) rs2 re2⟩
  | brk => cases h4; exact q σ' H' ρ' e1 rs1 re1
  | cont => cases h4; exact q σ' H' ρ' e1 rs1 re1
  | ret d => cases h4; exact q σ' H' ρ' e1 rs1 re1
end
section
variable {G : Gc} {A : Ad} {fa : Nat → Addr} {fd : Nat → FuncData} {c : Calls} {k : Nat}
mutual
theorem sS : ∀ (p : Sm) {N : List Str} {sc : Scope} {X : Cx} {s : Stmt}, Cs G A fa fd c k N sc X → chkS G N sc p s = true → PS X s (tS A X.K c p)
  | .bad, _, _, _, _, C, h => fun pins s σ H D I q => by
    obtain ⟨ρ, S, env, hs, fl, env', S', h, _⟩ := q
    cases h
  | .ex p, _, _, _, _, C, h => by
    unfold chkS at h
    split at h
    · rw [Bool.and_eq_true] at h
      exact x_ex h.1 (sE p C.toCq h.2)
    · cases h
  | .ret p, _, _, _, _, C, h => by
    unfold chkS at h
    split at h
    · exact x_ret (sE p C.toCq h)
    · cases h
  | .retN, _, _, _, _, C, h => by
    unfold chkS at h
    split at h
    · exact x_retN
    · cases h
  | .set i p, _, _, _, _, C, h => by
    unfold chkS at h
    split at h
    · simp only [Bool.and_eq_true] at h
      obtain ⟨⟨⟨h1, h2⟩, h3⟩, h4⟩ := h
      exact x_set C (of_decide_eq_true h1) h2 h3 h4
    · cases h
  | .unp is p, _, _, _, _, C, h => by
    unfold chkS at h
    split at h
    · simp only [Bool.and_eq_true] at h
      obtain ⟨⟨⟨h1, h2⟩, h3⟩, h4⟩ := h
      exact x_unp C h1 h2 h3 (sE p C.toCq h4)
    · cases h
  | .par is as, _, _, _, _, C, h => by
    unfold chkS at h
    split at h
    · rw [Bool.and_eq_true] at h
      exact x_par C h.1 (sA as C.toCq h.2)
    · cases h
  | .fld Ci o f p, _, _, _, _, C, h => by
    unfold chkS at h
    split at h
    · simp only [Bool.and_eq_true] at h
      obtain ⟨⟨⟨h1, h2⟩, h3⟩, h4⟩ := h
      exact x_fld C (of_decide_eq_true h1) (of_decide_eq_true h2) (sE o C.toCq h3) (sE p C.toCq h4)
    · cases h
  | .dput o kx p, _, _, _, _, C, h => by
    unfold chkS at h
    split at h
    · simp only [Bool.and_eq_true] at h
      exact x_dput C (sE o C.toCq h.1.1) (sE kx C.toCq h.1.2) (sE p C.toCq h.2)
    · cases h
  | .aug o i p, _, _, _, _, C, h => by
    unfold chkS at h
    split at h
    · simp only [Bool.and_eq_true] at h
      obtain ⟨⟨⟨⟨h1, h2⟩, h3⟩, h4⟩, h5⟩ := h
      have h1 := of_decide_eq_true h1
      have h2 := of_decide_eq_true h2
      subst h1
      subst h2
      exact x_aug C (of_decide_eq_true h3) h4 (sE p C.toCq h5)
    · cases h
  | .ite t a b, _, _, _, _, C, h => by
    unfold chkS at h
    split at h
    · simp only [Bool.and_eq_true] at h
      exact x_ite (sT t C.toCq h.1.1) (sSs a C h.1.2) (sSs b C h.2)
    · cases h
  | .for src tg b, _, _, _, _, C, h => by
    unfold chkS at h
    split at h
    · simp only [Bool.and_eq_true] at h
      obtain ⟨⟨⟨h1, h2⟩, h3⟩, h4⟩ := h
      exact x_for C h1 (sSr src C.toCq h2) (g_tg C.calm C.eN C.eS C.nd (fun x _ => C.fn x) h3) (sSs b C h4)
    · cases h
  | .while t b, _, _, _, _, C, h => by
    unfold chkS at h
    split at h
    · rw [Bool.and_eq_true] at h
      exact x_while C (sT t C.toCq h.1) (sSs b C h.2)
    · cases h
  | .brk, _, _, _, _, C, h => by
    unfold chkS at h
    split at h
    · exact impS ps_break fun D σ H h => by
        obtain ⟨ρ, S, env, hs, fl, env', S', h, q⟩ := h
        cases h
        exact q σ H ρ .refl hs.rs hs.re
    · cases h
  | .cont, _, _, _, _, C, h => by
    unfold chkS at h
    split at h
    · exact impS ps_continue fun D σ H h => by
        obtain ⟨ρ, S, env, hs, fl, env', S', h, q⟩ := h
        cases h
        exact q σ H ρ .refl hs.rs hs.re
    · cases h
  | .doc, _, _, _, _, C, h => by
    unfold chkS at h
    split at h
    · exact impS ps_pass fun D σ H h => by
        obtain ⟨ρ, S, env, hs, fl, env', S', h, q⟩ := h
        cases h
        exact q σ H ρ .refl hs.rs hs.re
    · cases h
theorem sSs : ∀ (p : Ss) {N : List Str} {sc : Scope} {X : Cx} {ss : List Stmt}, Cs G A fa fd c k N sc X → chkSs G N sc p ss = true → PSs X ss (tSs A X.K c p)
  | .nil, _, _, _, ss, C, h => by
    unfold chkSs at h
    split at h
    · exact x_nil
    · cases h
  | .cons p r, _, _, _, ss, C, h => by
    unfold chkSs at h
    split at h
    · rw [Bool.and_eq_true] at h
      exact x_cons (sS p C h.1) (sSs r C h.2)
    · cases h
end
end
end Ev

namespace Ev
open PySem PySem.Spec L2
/-! ### a def's end -/
section
variable {A : Ad} {K : PySem.W.Frag} {H H' : Hp} {ρ ρ' : Lc} {S S' : Sto}
theorem sameP_eq {κ : Type} [DecidableEq κ] : ∀ {a b : List (κ × D)}, sameP a b = true → a = b
  | [], [], _ => rfl
  | [], _ :: _, h => by cases h
  | _ :: _, [], h => by cases h
  | (x, d) :: a, (y, e) :: b, h => by
    simp only [sameP, Bool.and_eq_true, decide_eq_true_eq] at h
    obtain ⟨⟨rfl, h2⟩, h3⟩ := h
    rw [sameD_eq h2, sameP_eq h3]
theorem sameO_eq {a b : AO} (h : sameO a b = true) : a = b := by
  cases a <;> cases b <;> first | (cases h; done) | skip
  · rw [sameDs_eq h]
  · rw [sameP_eq h]
  · simp only [sameO, Bool.and_eq_true, decide_eq_true_eq] at h
    obtain ⟨rfl, h2⟩ := h
    rw [sameP_eq h2]
theorem sameS_get : ∀ {S T : Sto} {n : Nat} {o : AO}, sameS S T = true → S[n]? = some o → T[n]? = some o
  | [], _, _, _, _, e => by simp at e
  | _ :: _, [], _, _, h, _ => by cases h
  | x :: xs, y :: ys, 0, o, h, e => by
    simp only [sameS, Bool.and_eq_true] at h
    cases e
    rw [sameO_eq h.1]
    rfl
  | x :: xs, y :: ys, n + 1, o, h, e => by
    simp only [sameS, Bool.and_eq_true] at h
    exact sameS_get (S := xs) (T := ys) h.2 e
mutual
theorem RepD.back (hn : ∀ a, ρ'.no a → ρ.no a) (hp : ∃ new, ρ'.o = ρ.o ++ new) : ∀ {d : D} {v v0 : V} {H0 : Hp}, RepD K H0 ρ d v0 → RepD K H' ρ' d v → RepD K H' ρ d v
  | .non, _, _, _, _, q => q
  | .bl _, _, _, _, _, q => q
  | .int _, _, _, _, _, q => q
  | .str _, _, _, _, _, q => q
  | .tup xs, _, _, _, q0, q => by
    obtain ⟨a0, vs0, _, _, _, g3⟩ := q0
    obtain ⟨a, vs, rfl, h1, h2, h3⟩ := q
    exact ⟨a, vs, rfl, h1, h2.elim (fun z => .inl ⟨z.1, hn a z.2⟩) .inr, RepDs.back hn hp g3 h3⟩
  | .lst xs, _, _, _, q0, q => by
    obtain ⟨a0, vs0, _, _, _, g3⟩ := q0
    obtain ⟨a, vs, rfl, h1, h2, h3⟩ := q
    exact ⟨a, vs, rfl, h1, h2.elim (fun z => .inl (hn a z)) .inr, RepDs.back hn hp g3 h3⟩
  | .obj n, _, _, _, q0, q => by
    obtain ⟨a0, _, h0⟩ := q0
    obtain ⟨a, rfl, h1⟩ := q
    obtain ⟨new, e⟩ := hp
    refine ⟨a, rfl, ?_⟩
    rw [e, List.getElem?_append_left (List.getElem?_eq_some_iff.mp h0).1] at h1
    exact h1
theorem RepDs.back (hn : ∀ a, ρ'.no a → ρ.no a) (hp : ∃ new, ρ'.o = ρ.o ++ new) : ∀ {ds : List D} {vs vs0 : List V} {H0 : Hp}, RepDs K H0 ρ ds vs0 → RepDs K H' ρ' ds vs → RepDs K H' ρ ds vs
  | [], _, _, _, _, q => q
  | d :: ds, _, _, _, q0, q => by
    obtain ⟨v0, r0, _, g1, g2⟩ := q0
    obtain ⟨v, r, rfl, h1, h2⟩ := q
    exact ⟨v, r, rfl, RepD.back hn hp g1 h1, RepDs.back hn hp g2 h2⟩
end
mutual
theorem RepD.pur (hn : ∀ a, ρ'.no a → ρ.no a) : ∀ {d : D} {v : V}, pureD d = true → RepD K H' ρ' d v → RepD K H' ρ d v
  | .non, _, _, q => q
  | .bl _, _, _, q => q
  | .int _, _, _, q => q
  | .str _, _, _, q => q
  | .tup xs, _, p, q => by
    obtain ⟨a, vs, rfl, h1, h2, h3⟩ := q
    exact ⟨a, vs, rfl, h1, h2.elim (fun z => .inl ⟨z.1, hn a z.2⟩) .inr, RepDs.pur hn p h3⟩
  | .lst xs, _, p, q => by
    obtain ⟨a, vs, rfl, h1, h2, h3⟩ := q
    exact ⟨a, vs, rfl, h1, h2.elim (fun z => .inl (hn a z)) .inr, RepDs.pur hn p h3⟩
  | .obj n, _, p, _ => by cases p
theorem RepDs.pur (hn : ∀ a, ρ'.no a → ρ.no a) : ∀ {ds : List D} {vs : List V}, pureDs ds = true → RepDs K H' ρ' ds vs → RepDs K H' ρ ds vs
  | [], _, _, q => q
  | d :: ds, _, p, q => by
    obtain ⟨v, r, rfl, h1, h2⟩ := q
    simp only [pureDs, Bool.and_eq_true] at p
    exact ⟨v, r, rfl, RepD.pur hn p.1 h1, RepDs.pur hn p.2 h2⟩
end
theorem pair2 {α β : Type} {F F' F'' : α → β → Prop} (f : ∀ a b b', F a b → F' a b' → F'' a b') : ∀ {l : List α} {m m' : List β}, Paired F l m → Paired F' l m' → Paired F'' l m'
  | _, _, _, .nil, .nil => .nil
  | _, _, _, .cons a t, .cons b u => .cons (f _ _ _ a b) (pair2 f t u)
/-- what a clean def leaves: nothing of its own -/
theorem RepS.clean (r : RepS A K H ρ S) (e : Ext H ρ H' ρ') (r' : RepS A K H' ρ' S') (h : sameS S S' = true) : RepS A K H' ρ S ∧ Ext H ρ H' ρ ∧ ∀ a, ρ'.no a → ρ.no a := by
  have hp : ∃ new, ρ'.o = ρ.o ++ new := by
    obtain ⟨new, e1, _⟩ := e.pre
    exact ⟨new, e1⟩
  have hn : ∀ a, ρ'.no a → ρ.no a := fun a z => by
    obtain ⟨new, e1, _⟩ := e.pre
    obtain ⟨q, e2, _⟩ := e.pin
    constructor
    · intro m
      exact z.1 (by rw [e1]; exact List.mem_append_left _ m)
    · intro m
      exact z.2 (by rw [e2]; exact List.mem_append_right _ m)
  refine ⟨⟨r.len, r.nd, fun {n o a} h1 h2 => ?_, fun a m => ⟨(r.pin a m).1, ?_⟩⟩, ⟨⟨[], by simp, by simp⟩, ⟨[], by simp, by simp⟩, e.keep, e.there⟩, hn⟩
  · have g0 := r.at_ h1 h2
    have g1 := r'.at_ (sameS_get h h1) (e.get h2)
    cases o with
    | lst xs =>
      obtain ⟨vs0, _, k0⟩ := g0
      obtain ⟨vs, k1, k2⟩ := g1
      exact ⟨vs, k1, RepDs.back hn hp k0 k2⟩
    | dct kvs =>
      obtain ⟨us0, _, k0⟩ := g0
      obtain ⟨us, k1, k2⟩ := g1
      exact ⟨us, k1, pair2 (fun p q q' x y => ⟨y.1, RepD.back hn hp x.2 y.2⟩) k0 k2⟩
    | ins C fs =>
      obtain ⟨dx0, us0, _, k0⟩ := g0
      obtain ⟨dx, us, k1, k2⟩ := g1
      exact ⟨dx, us, k1, pair2 (fun p q q' x y => ⟨y.1, RepD.back hn hp x.2 y.2⟩) k0 k2⟩
  · obtain ⟨_, o, q⟩ := r.pin a m
    exact e.there a o q
theorem start_rep {N : List Str} {ds : List D} {vs : List V} {ns np : Nat} (h : RepDs K H ρ ds vs) (h1 : ns = N.length) (h2 : ds.length = np) : RepE K H ρ (ds.map some ++ List.replicate (ns - np) none) (L2.start N vs) := by
  have hl := h.length
  constructor
  · unfold L2.start
    simp [hl, h1, h2]
  · intro i d e
    by_cases hi : i < ds.length
    · rw [List.getElem?_append_left (by simpa using hi), List.getElem?_map] at e
      obtain ⟨d', e1, e2⟩ := Option.map_eq_some_iff.mp e
      cases e2
      obtain ⟨v, g1, g2⟩ := h.get e1
      refine ⟨v, ?_, g2⟩
      unfold L2.start
      rw [List.getElem?_append_left (by simpa [hl] using hi), List.getElem?_map, g1]
      rfl
    · rw [List.getElem?_append_right (by simpa using hi), List.getElem?_replicate] at e
      split at e <;> cases e
end
/-! ### all defs, by the number of calls that they may be deep -/
structure Fd (G : Gc) (A : Ad) (fa : Nat → Addr) (fd : Nat → FuncData) (P : Program) (w : World) (K : PySem.W.Frag) (mg : Str → Option Value) : Prop extends Gd G A fa fd P w K mg where
  fns : ∀ {f : Nat} {fi : FnI}, G.fns[f]? = some fi → Fun K fi.name fi.qual fi.st (fa f) (fd f)
/-- the text of a def and its mini text -/
def chkF (G : Gc) (fi : FnI) : Bool :=
  decide ((defScope fi.st).kind = .function) && !(defScope fi.st).isCoroutine && !(defScope fi.st).isGenerator && decide fi.N.Nodup && decide (fi.N.take fi.ps.length = fi.ps) &&
    (fi.ps.all fun x => decide ((defScope fi.st).names.lookup x = some .local) || decide ((defScope fi.st).names.lookup x = some .cell)) && ((defScope fi.st).names.all fun y => decide (y.2 ≠ .free)) &&
    decide (fi.fn.np = fi.ps.length) && decide (fi.fn.ns = fi.N.length) && chkSs G fi.N (defScope fi.st) fi.fn.body (defBody fi.st)
theorem chkF_ok {G : Gc} {fi : FnI} (h : chkF G fi = true) : FnScope fi.N fi.ps (defScope fi.st) ∧ fi.fn.np = fi.ps.length ∧ fi.fn.ns = fi.N.length ∧ chkSs G fi.N (defScope fi.st) fi.fn.body (defBody fi.st) = true := by
  unfold chkF at h
  simp only [Bool.and_eq_true, Bool.not_eq_true', decide_eq_true_eq] at h
  obtain ⟨⟨⟨⟨⟨⟨⟨⟨⟨h1, h2⟩, h3⟩, h4⟩, h5⟩, h6⟩, h7⟩, h8⟩, h9⟩, h10⟩ := h
  refine ⟨⟨h1, h2, h3, h4, h5, fun x hx => ?_, fun y hy => ?_⟩, h8, h9, h10⟩
  · have := List.all_eq_true.mp h6 x hx
    rw [Bool.or_eq_true] at this
    exact this.elim (fun z => .inl (of_decide_eq_true z)) fun z => .inr (of_decide_eq_true z)
  · exact of_decide_eq_true (List.all_eq_true.mp h7 y hy)
theorem callN_len {G : Gc} (hall : ∀ {f : Nat} {fi : FnI}, G.fns[f]? = some fi → chkF G fi = true) : ∀ {n f : Nat} {fi : FnI} {ds : List D} {S S' : Sto} {d : D}, G.fns[f]? = some fi → callN (G.fns.map (·.fn)) n f ds S = .ok d S' → ds.length = fi.ps.length
  | 0, _, _, _, _, _, _, _, h => by cases h
  | n + 1, f, fi, ds, S, S', d, e, h => by
    unfold callN at h
    rw [List.getElem?_map, e] at h
    simp only [Option.map_some] at h
    split at h
    · rename_i hl
      rw [hl, (chkF_ok (hall e)).2.1]
    · cases h
theorem fn_ok {G : Gc} {A : Ad} {fa : Nat → Addr} {fd : Nat → FuncData} {P : Program} {w : World} {K : PySem.W.Frag} {mg : Str → Option Value} {base : Heap} (F : Fd G A fa fd P w K mg) (hall : ∀ {f : Nat} {fi : FnI}, G.fns[f]? = some fi → chkF G fi = true) :
    ∀ (n : Nat) {f : Nat} {fi : FnI}, G.fns[f]? = some fi → FnOk P w K mg base CX0 (2 * n) (fa f) (fd f) fi.ps (spC A K (callN (G.fns.map (·.fn)) n) f fi.ps.length)
  | 0, f, fi, e => by
    have no : ∀ vs H Q E, ¬ spC A K (callN (G.fns.map (·.fn)) 0) f fi.ps.length vs H Q E := fun vs H Q E h => by
      obtain ⟨ρ, S, ds, _, _, _, d, S', h, _⟩ := h
      cases h
    exact ⟨fun vs H Q E h => absurd h (no vs H Q E), fun A' outer s H args us vs Q E _ _ _ _ h => absurd h (no vs H Q E)⟩
  | n + 1, f, fi, e => by
    obtain ⟨sc, np, ns, body⟩ := chkF_ok (hall e)
    have ih : ∀ {f : Nat} {fi : FnI}, G.fns[f]? = some fi → FnOk P w K mg base CX0 (2 * n) (fa f) (fd f) fi.ps (spC A K (callN (G.fns.map (·.fn)) n) f fi.ps.length) := fun {f fi} e => fn_ok F hall n e
    refine (F.fns e).ok (k := 2 * n + 1) sc (fun vs H Q E h => ?_) (fun cdv A' outer s H vs Q E hr h => ?_)
    · obtain ⟨ρ, S, ds, _, h2, h3, _⟩ := h
      rw [h2.length, h3]
    · obtain ⟨ρ, S, ds, rs, rd, hl, d, S', h, q⟩ := h
      have C : Cs G A fa fd (callN (G.fns.map (·.fn)) n) (2 * n) fi.N (defScope fi.st) (cxOf CX0 P w K mg base fi.N fi.qual (defScope fi.st) (fa f) cdv A' outer s H E).nox :=
        { gd := F.toGd, calls := ih, calm := rfl, room := hr, ar := callN_len hall, eN := rfl, eS := rfl, nd := sc.nd, xe := rfl, fn := fun _ => rfl }
      refine ⟨_, sSs fi.fn.body C body, ?_⟩
      unfold callN at h
      rw [List.getElem?_map, e] at h
      simp only [Option.map_some] at h
      split at h
      · rename_i hlen
        obtain ⟨⟨fl, env'⟩, S1, h1, h2⟩ := Res.bind_ok h
        clear h
        refine ⟨ρ, S, _, ⟨rs, start_rep rd ns hlen⟩, fl, env', S1, h1, fun σ' H' ρ' e1 rs1 re1 => ?_⟩
        have fin : ∀ {x : D}, endD fi.fn.clean S x S1 = .ok d S' → ∀ v, RepD K H' ρ' x v → Q v H' := fun {x} z v rv => by
          unfold endD at z
          split at z
          · split at z
            · rename_i hc
              rw [Bool.and_eq_true] at hc
              cases z
              obtain ⟨c1, c2, c3⟩ := rs.clean e1 rs1 hc.2
              exact q v H' ρ c2 c1 (RepD.pur c3 hc.1 rv)
            · cases z
          · cases z
            exact q v H' ρ' e1 rs1 rv
        cases fl with
        | nx => exact fin h2 .non rfl
        | ret x => exact fin h2
        | brk => cases h2
        | cont => cases h2
      · cases h
/-- the law's own promise -/
theorem law_sp {A : Ad} {K : PySem.W.Frag} {c : Calls} {f : Nat} {H : Hp} {a : Addr} {ns : List Int} (hl : ∃ S', c f [.lst (ns.map .int)] [] = .ok (.bl true) S') (hS : SqL K H a (ns.map V.int)) : spC A K c f 1 [.ref a] H (fun v _ => v = .bl true) fun _ _ _ => False := by
  obtain ⟨S', hl⟩ := hl
  refine ⟨⟨[], []⟩, [], [.lst (ns.map .int)], ⟨rfl, List.nodup_nil, fun h _ => by simp at h, fun a m => by simp at m⟩, ⟨.ref a, [], rfl, ⟨a, _, rfl, hS, .inl ⟨by simp, by simp⟩, ?_⟩, rfl⟩, rfl, .bl true, S', hl, fun v H' ρ' _ _ rd => rd⟩
  clear hl hS
  induction ns with
  | nil => exact rfl
  | cons n ns ih => exact ⟨_, _, rfl, rfl, ih⟩
end Ev

namespace Ev
open PySem PySem.Spec L2
section
open PySem.SeqAt
open PySem.AutoSeq1 (wpAny_loadPart')
open PySem.MeetsSeq PySem.MeetsSeq2 PySem.MeetsSeq3
theorem tuple_indexAt (l : Addr) (items : Array Value) (n : Nat) (dd : Option Addr) (sl : Array (Option Value)) (x : Value) (e : Value → Bool) (j : Nat) (hj : j < items.size) (hit : e items[j] = true) (hno : ∀ m (hm : m < items.size), m < j → e items[m] = false) :
    Meets (Builtin.«tuple.index» ⟨[.ref l, x], []⟩)
      (fun A R s => s.heap.get? l = some { cls := .type "tuple", dict := dd, data := .seq items n, slots := sl } ∧ (∀ y, y ∈ items → EqAt A.in1 s y x (e y)) ∧ R (.ok (.ret (.int j s.toks))) { s with toks := s.toks + 1 }) :=
  .of_wp fun prog w A R s h => by
    obtain ⟨hp, g, d, tk, os⟩ := s; obtain ⟨hl, he, h⟩ := h
    wp_walk using wpAny_loadPart' hl
    show wpAny (model prog w) A.in1 (forIn (m := Sem) ([:min items.size items.size] : Std.Legacy.Range) ((none, ()) : Option Fin × Unit) (fun (i : Nat) __s =>
            match items[i]? with
            | some y => do
              let b ← eqBool y x
              if b = true then do
                  let r ← retInt (i : Int)
                  pure (ForInStep.done (some r, ()))
                else pure (ForInStep.yield (none, ()))
            | x => pure (ForInStep.yield (none, ())))) _ _ _
    rw [Std.Legacy.Range.forIn_eq_forIn_range']
    have e1 : (min items.size items.size - 0 + 1 - 1) / 1 = items.size := by simp
    show wpAny _ _ (forIn (List.range' 0 ((min items.size items.size - 0 + 1 - 1) / 1) 1) _ _) _ _ _
    rw [e1]
    refine wpAny_forIn_list _ (fun rest b s' => b = (none, ()) ∧ s' = ⟨hp, g, d, tk, os⟩ ∧ ∃ i, i ≤ j ∧ rest = List.range' i (items.size - i) 1) _ ?_ ?_ _ _ ⟨rfl, rfl, 0, Nat.zero_le _, by simp⟩
    · rintro i rest b s' ⟨rfl, rfl, i', hi', hr⟩
      have hlt : i' < items.size := by omega
      obtain ⟨k, hk⟩ : ∃ k, items.size - i' = k + 1 := ⟨items.size - i' - 1, by omega⟩
      rw [hk, List.range'_succ] at hr
      injection hr with e2 e3
      subst e2
      simp only [Array.getElem?_eq_getElem hlt]
      refine wpAny_bind (he _ (Array.getElem_mem hlt) prog w _ _ ?_)
      by_cases ej : i = j
      · subst ej
        rw [hit]
        wp_walk
        exact ⟨_, rfl, h⟩
      · rw [hno i hlt (by omega)]
        wp_walk
        exact ⟨rfl, rfl, i + 1, by omega, by rw [e3]; congr 1; omega⟩
    · rintro b s' ⟨rfl, rfl, i', hi', hr⟩
      exfalso
      have : (List.range' i' (items.size - i') 1).length = 0 := by rw [← hr]; rfl
      simp at this
      omega
end
section
variable {X : Cx}
/-- ROW.index(k) of the top's own tuple of texts -/
theorem gt_ok {a : Addr} {xs : List (List Nat)} {o : Obj} {its : Array Value} {n : Nat} (hk : X.K.lookup a = some o) (hc : o.cls = .type "tuple") (hd : o.data = .seq its n) (rv : Vals (xs.map fun x => V.str ⟨x.toArray⟩) its.toList) : MtR X "tuple.index" (rGT a xs) := by
  intro pins s σ H x ys v us Q I rx rv' h
  obtain ⟨kx, j, rfl, rfl, hf, q⟩ := h
  cases rx
  obtain ⟨u, rfl, ru⟩ := rv'.one
  obtain ⟨cls, dd, data, sl⟩ := o
  simp only at hc hd
  subst hc hd
  have ho := I.kIn a _ hk
  have fl : (xs.map fun x => V.str ⟨x.toArray⟩).all flatV = true := by
    rw [List.all_map]
    exact List.all_eq_true.mpr fun _ _ => rfl
  -- the first place
  have first : ∀ {ys : List (List Nat)} {j : Nat}, firstIx (fun y => decide (y = kx)) ys = some j → ys[j]? = some kx ∧ ∀ m, m < j → ∀ y, ys[m]? = some y → y ≠ kx := by
    intro ys
    induction ys with
    | nil => intro j h; cases h
    | cons y ys ih =>
      intro j h
      unfold firstIx at h
      split at h
      · rename_i e
        cases h
        exact ⟨by rw [of_decide_eq_true e]; rfl, fun m hm => by omega⟩
      · rename_i e
        obtain ⟨j', h1, rfl⟩ := Option.map_eq_some_iff.mp h
        obtain ⟨g1, g2⟩ := ih h1
        refine ⟨g1, fun m hm z hz => ?_⟩
        cases m with
        | zero => cases hz; exact fun w => e (decide_eq_true w)
        | succ m => exact g2 m (by omega) z hz
  obtain ⟨f1, f2⟩ := first hf
  have f1' : (xs.map fun x => V.str ⟨x.toArray⟩)[j]? = some (V.str ⟨kx.toArray⟩) := by rw [List.getElem?_map, f1]; rfl
  obtain ⟨w, hw, rw'⟩ := rv.get f1'
  obtain ⟨hjl, hje⟩ := List.getElem?_eq_some_iff.mp hw
  have hj : j < its.size := by simpa using hjl
  have eq1 : ∀ {m : Nat} {y : List Nat} (hm : m < its.size), xs[m]? = some y → eqU (V.str ⟨kx.toArray⟩) its[m] = decide (y = kx) := by
    intro m y hm hy
    have hy' : (xs.map fun x => V.str ⟨x.toArray⟩)[m]? = some (V.str ⟨y.toArray⟩) := by rw [List.getElem?_map, hy]; rfl
    obtain ⟨u2, hu2, ru2⟩ := rv.get hy'
    obtain ⟨_, hme⟩ := List.getElem?_eq_some_iff.mp hu2
    have e1 : its[m] = u2 := by simpa using hme
    rw [e1, eqU_of ru2 rfl]
    show ((⟨y.toArray⟩ : Str) == ⟨kx.toArray⟩) = _
    rw [Bool.eq_iff_iff]
    simp
  refine call_meets PySem.F.slot_tuple_index ⟨_, ho, rfl⟩ PySem.F.entry_tuple_index (PySem.F.args_tuple_index_2 _ _)
    (tuple_indexAt a its n dd sl u (eqU (V.str ⟨kx.toArray⟩)) j hj ?_ ?_) ⟨ho, fun u' hu' => mem_eqAt ru rfl rv fl u' (by simpa using hu'), ?_⟩
  · rw [eq1 hj f1]; simp
  · intro m hm hmj
    have hmx : m < xs.length := by
      have := rv.length
      simp at this
      omega
    have e2 := List.getElem?_eq_getElem hmx
    rw [eq1 hm e2]
    exact decide_eq_false (f2 m hmj _ e2)
  · exact ⟨.int (j : Nat), H, I.tok _, ⟨_, rfl⟩, q⟩
/-- TABLE[k] of the top's own dict of texts -/
theorem gd_ok {a : Addr} {kvs : List (List Nat × List Nat)} {vs : List (Key × Value)} (hv : KV (kvs.map fun p => ((Sum.inr ⟨p.1.toArray⟩ : Key), V.str ⟨p.2.toArray⟩)) vs) (hd : ∀ h, X.K.In h → h.DictOf (mixKind X.prog X.w) a vs) : IxR X (rGD a kvs) := by
  intro value slice pins s σ H x y v u Q I rx ry h hs
  obtain ⟨kx, z, rfl, rfl, hz, q⟩ := h
  cases rx
  have dd := hd s.heap I.kIn
  have look : ∀ {kvs : List (List Nat × List Nat)}, kvs.lookup kx = some z → valV (kvs.map fun p => ((Sum.inr ⟨p.1.toArray⟩ : Key), V.str ⟨p.2.toArray⟩)) (Sum.inr ⟨kx.toArray⟩) = some (V.str ⟨z.toArray⟩) := by
    intro kvs
    induction kvs with
    | nil => intro h; cases h
    | cons p kvs ih =>
      intro h
      rw [show (p :: kvs) = ((p.1, p.2) :: kvs) from rfl, List.lookup_cons] at h
      unfold valV
      rw [List.map_cons, List.find?_cons]
      by_cases e : kx = p.1
      · subst e
        simp only [beq_self_eq_true] at h
        cases h
        simp
      · have e' : (kx == p.1) = false := beq_eq_false_iff_ne.mpr e
        simp only [e'] at h
        have e2 : ¬ ((Sum.inr ⟨p.1.toArray⟩ : Key) = Sum.inr ⟨kx.toArray⟩) := fun w => e (by
          have := Sum.inr.inj w
          exact (str_inj.mp this).symm)
        simp only [decide_eq_false e2]
        exact ih h
  obtain ⟨w', hw, rw'⟩ := RelO.some_of (v := V.str ⟨z.toArray⟩) (o := valueAt vs (Sum.inr ⟨kx.toArray⟩)) (by rw [← look hz]; exact hv.val _)
  exact PyProof.Rows.tail_any dd.typeIs PySem.F.slot_dict_getitem.lookup (wpAny_getItem_of (kV_is (k := Sum.inr ⟨kx.toArray⟩) ry) dd.mapOf hw ⟨_, H, I.tok _, rw', q⟩) hs
end
end Ev

namespace Ev
open PySem PySem.Spec L2
/-! ### what the top has written, def by def -/
structure FF (K : PySem.W.Frag) (mg : Str → Option Value) (A : Ad) (fi : FnI) (p : Addr × FuncData) : Prop where
  fn : Fun K fi.name fi.qual fi.st p.1 p.2
  bd : Binds K p.2 fi.ps []
  tp : fi.cl = none → mg fi.name = some (.ref p.1)
  mt : ∀ C, fi.cl = some C → fi.name ≠ "__init__" → Meth K (A.cl C) fi.name p.1 ∧ fi.name ∉ A.attrs
  ini : ∀ C, fi.cl = some C → fi.name = "__init__" → Mk K (A.cl C) p.1
theorem paired_get {α β : Type} {F : α → β → Prop} : ∀ {l : List α} {m : List β} {i : Nat} {a : α}, Paired F l m → l[i]? = some a → ∃ b, m[i]? = some b ∧ F a b
  | _, _, _, _, .nil, e => by simp at e
  | _, _, 0, _, .cons h _, e => by cases e; exact ⟨_, rfl, h⟩
  | _, _, i + 1, _, .cons _ t, e => paired_get (i := i) t e
theorem ff_top {K : PySem.W.Frag} {mg : Str → Option Value} {A : Ad} {fi : FnI} {f : Addr} {fd : FuncData} (F : Fun K fi.name fi.qual fi.st f fd) (b : Binds K fd fi.ps []) (hc : fi.cl = none) (m : mg fi.name = some (.ref f)) : FF K mg A fi (f, fd) :=
  ⟨F, b, fun _ => m, fun C h => (nomatch (hc.symm.trans h)), fun C h => (nomatch (hc.symm.trans h))⟩
theorem ff_meth {K : PySem.W.Frag} {mg : Str → Option Value} {A : Ad} {fi : FnI} {f : Addr} {fd : FuncData} {C : Nat} (F : Fun K fi.name fi.qual fi.st f fd) (b : Binds K fd fi.ps []) (hc : fi.cl = some C) (hi : fi.name ≠ "__init__") (m : Meth K (A.cl C) fi.name f) (ha : fi.name ∉ A.attrs) : FF K mg A fi (f, fd) :=
  ⟨F, b, fun h => (nomatch (hc.symm.trans h)), fun C' h _ => (by
    have e := Option.some.inj (hc.symm.trans h)
    subst e
    exact ⟨m, ha⟩), fun C' _ h => absurd h hi⟩
theorem ff_init {K : PySem.W.Frag} {mg : Str → Option Value} {A : Ad} {fi : FnI} {f : Addr} {fd : FuncData} {C : Nat} (F : Fun K fi.name fi.qual fi.st f fd) (b : Binds K fd fi.ps []) (hc : fi.cl = some C) (hi : fi.name = "__init__") (m : Mk K (A.cl C) f) : FF K mg A fi (f, fd) :=
  ⟨F, b, fun h => (nomatch (hc.symm.trans h)), fun C' _ h => absurd hi h, fun C' h _ => (by
    have e := Option.some.inj (hc.symm.trans h)
    subst e
    exact m)⟩
theorem fd_of {G : Gc} {P : Program} {w : World} {K : PySem.W.Frag} {mg : Str → Option Value} {cs : List Addr} {ps : List (Addr × FuncData)} (d0 : FuncData)
    (hf : Paired (FF K mg ⟨fun i => cs.getD i 0, G.attrs⟩) G.fns ps) (hc : Paired (fun x a => Cls K a ∧ mg x = some (.ref a) ∧ ∀ y ∈ G.attrs, NoAttr K a y) G.cls cs) (nd : G.attrs.Nodup) (hb : ∀ x ∈ bltNames, mg x = none)
    (hg : ∀ p ∈ G.globs, ∃ u v, mg p.1 = some u ∧ RelV v u ∧ ∀ H ρ, RepD K H ρ p.2 v) (hd : ∀ p ∈ G.gdicts, ∃ a, mg p.1 = some (.ref a) ∧ ∀ X : Cx, X.K = K → X.prog = P → X.w = w → IxR X (rGD a p.2))
    (ht : ∀ p ∈ G.gtups, ∃ a, mg p.1 = some (.ref a) ∧ (∃ o, K.lookup a = some o ∧ o.cls = .type "tuple" ∧ o.dict = none) ∧ ∀ X : Cx, X.K = K → X.prog = P → X.w = w → MtR X "tuple.index" (rGT a p.2)) :
    Fd G ⟨fun i => cs.getD i 0, G.attrs⟩ (fun i => (ps.getD i (0, d0)).1) (fun i => (ps.getD i (0, d0)).2) P w K mg := by
  have at_ : ∀ {f : Nat} {fi : FnI}, G.fns[f]? = some fi → FF K mg ⟨fun i => cs.getD i 0, G.attrs⟩ fi (ps.getD f (0, d0)) := fun {f fi} e => by
    obtain ⟨b, h1, h2⟩ := paired_get hf e
    rw [List.getD_eq_getElem?_getD, h1]
    exact h2
  refine { fnB := fun e => ⟨(at_ e).bd, (at_ e).fn.kp⟩, fnG := fun e h => (at_ e).tp h, fnM := fun e h n => (at_ e).mt _ h n, fnI := fun e h n => (at_ e).ini _ h n, cls := fun {C x} e => ?_, attrs := rfl, nd := nd, blt := hb, glob := fun m => hg _ m, gdict := fun m => hd _ m, gtup := fun m => ht _ m, fns := fun e => (at_ e).fn }
  obtain ⟨b, h1, h2⟩ := paired_get hc e
  have e3 : cs.getD C 0 = b := by rw [List.getD_eq_getElem?_getD, h1]; rfl
  show Cls K (cs.getD C 0) ∧ mg x = some (.ref (cs.getD C 0)) ∧ ∀ y ∈ G.attrs, NoAttr K (cs.getD C 0) y
  rw [e3]
  exact h2
/-- a tuple of texts of the top -/
theorem glob_tup {K : PySem.W.Frag} {a : Addr} {xs : List (List Nat)} {o : Obj} {its : Array Value} {n : Nat} (hk : K.lookup a = some o) (hc : o.cls = .type "tuple") (hd : o.data = .seq its n) (hz : its.size ≤ sizeLine) (rv : Vals (xs.map fun x => V.str ⟨x.toArray⟩) its.toList) (hne : xs ≠ []) (H : Hp) (ρ : Lc) : RepD K H ρ (.tup (xs.map .str)) (.ref a) := by
  refine ⟨a, xs.map fun x => V.str ⟨x.toArray⟩, rfl, .inr ⟨o, its, n, hk, hc, hd, hz, rv⟩, .inr ⟨.inr ⟨o, its, n, hk, hc, hd, hz, rv⟩, by simpa using hne, fun v hv => ?_⟩, ?_⟩
  · obtain ⟨x, _, rfl⟩ := List.mem_map.mp hv
    exact ⟨_, rfl⟩
  · clear rv hne
    induction xs with
    | nil => exact rfl
    | cons x xs ih => exact ⟨_, _, rfl, rfl, ih⟩
/-- law's promise: a list of at most 63 ints is handed in, True comes out -/
def spLaw (K : PySem.W.Frag) : Sp := fun vs H Q _ => ∃ (a : Addr) (ns : List Int), vs = [.ref a] ∧ SqL K H a (ns.map V.int) ∧ ns.length ≤ 63 ∧ ∀ H', Q (.bl true) H'
theorem law_imp {A : Ad} {K : PySem.W.Frag} {c : Calls} {f : Nat} (hl : ∀ ns : List Int, ns.length ≤ 63 → ∃ S', c f [.lst (ns.map .int)] [] = .ok (.bl true) S') : ∀ vs H Q E, spLaw K vs H Q E → spC A K c f 1 vs H Q E := fun vs H Q E h => by
  obtain ⟨a, ns, rfl, hS, h63, q⟩ := h
  obtain ⟨ρ, S, ds, rs, rd, hlen, d, S', h1, h2⟩ := law_sp (A := A) (hl ns h63) hS
  exact ⟨ρ, S, ds, rs, rd, hlen, d, S', h1, fun v H' ρ' e r s => by
    have e2 : v = .bl true := h2 v H' ρ' e r s
    rw [e2]
    exact q H'⟩
/-- the law's def -/
theorem law_fn {G : Gc} {A : Ad} {fa : Nat → Addr} {fd : Nat → FuncData} {P : Program} {w : World} {K : PySem.W.Frag} {mg : Str → Option Value} {base : Heap} (F : Fd G A fa fd P w K mg) (hall : G.fns.all (chkF G) = true) {n f : Nat} {fi : FnI} (e : G.fns[f]? = some fi) (h1 : fi.ps.length = 1)
    (hl : ∀ ns : List Int, ns.length ≤ 63 → ∃ S', callN (G.fns.map (·.fn)) n f [.lst (ns.map .int)] [] = .ok (.bl true) S') : FnOk P w K mg base CX0 (2 * n) (fa f) (fd f) fi.ps (spLaw K) := by
  have q := fn_ok (base := base) F (fun {f fi} e => List.all_eq_true.mp hall fi (List.mem_of_getElem? e)) n e
  rw [h1] at q
  exact q.imp (law_imp hl)
theorem walk {l : PySem.W.OpenLaw} {q : Program} {loose : List Str} {XP : (Str → Option Value) → Heap → Prop} {YP : World → Heap → Prop} {d : DefRec} {K : Params → PySem.W.Frag} {x : Str} {n : Nat} (hn : l.most = some 63) (hdf : d.params.defaults = []) (hr : Room (2 * n) callerA)
    (hY : ∀ (w : World) (h : Heap), YP w h → (K w.params).In h)
    (F : ∀ (w : World) (mg : Str → Option Value) (fa : Addr) (h : Heap), (K w.params).In h → h.Ns mainGlobals mg → mg d.name = some (.ref fa) →
      ∃ fd : FuncData, (∀ (s : Shared) (u : Value), BindsTo s fd ⟨[u], []⟩ [(x, u)]) ∧ ∀ base : Heap, (K w.params).In base → base.Ns mainGlobals mg → FnOk l.prog w (K w.params) mg base CX0 (2 * n) fa fd [x] (spLaw (K w.params))) :
    PySem.W.WalkO q loose XP YP l.row.toRowW d [] (fun f vs => PySem.call f vs) :=
  L2.walk_of (n := 63) (k := 2 * n) (x := x) (CX := fun _ => CX0) (sp := fun w => spLaw (K w.params)) hn (by decide) hdf hr hY F (fun _ _ a ns hl _ hS => ⟨a, ns, rfl, hS, hl, fun _ => rfl⟩) fun _ _ _ _ _ z => z
end Ev

namespace Ev
/-! ### running the mini language -/
theorem okV_t {α : Type} {a : α} {S : Sto} : okV true a S = .ok a S := rfl
theorem bok {α β : Type} {a : α} {S : Sto} {f : α → Sto → Res β} : (Res.ok a S).bind f = f a S := rfl
theorem call_at {fns : List Fn} {k f : Nat} {fn : Fn} {ds : List D} {S : Sto} (h : fns[f]? = some fn) (hl : ds.length = fn.np) : callN fns (k + 1) f ds S = (evSs (callN fns k) fn.body (ds.map some ++ List.replicate (fn.ns - fn.np) none) S).bind fun q S' => match q.1 with
        | .nx => endD fn.clean S .non S'
        | .ret d => endD fn.clean S d S'
        | _ => .bad := by
  show (match fns[f]? with | none => _ | some fn => _) = _
  rw [h]
  simp only [hl, if_true]
  all_goals rfl
theorem ss_cons {c : Calls} {s : Sm} {r : Ss} {σ : Nv} {S : Sto} : evSs c (.cons s r) σ S = (evS c s σ S).bind fun q S => match q.1 with
    | .nx => evSs c r q.2 S
    | _ => .ok q S := by
  rw [evSs]
  all_goals rfl
theorem ss_nx {c : Calls} {s : Sm} {r : Ss} {σ σ' : Nv} {S S' : Sto} (h : evS c s σ S = .ok (.nx, σ') S') : evSs c (.cons s r) σ S = evSs c r σ' S' := by rw [ss_cons, h]; rfl
theorem ss_ret {c : Calls} {s : Sm} {r : Ss} {σ σ' : Nv} {S S' : Sto} {d : D} (h : evS c s σ S = .ok (.ret d, σ') S') : evSs c (.cons s r) σ S = .ok (.ret d, σ') S' := by rw [ss_cons, h]; rfl
/-! ### the draws -/
/-- the town: the list of the draws made so far, at place t of the store -/
def T (t : Nat) (S : Sto) (n : Nat) : Prop := ∃ xs, S[t]? = some (.lst xs) ∧ xs.length ≤ n
theorem T.mono {t : Nat} {S : Sto} {n m : Nat} (h : T t S n) (l : n ≤ m) : T t S m := by
  obtain ⟨xs, a, b⟩ := h
  exact ⟨xs, a, Nat.le_trans b l⟩
theorem cm_c (x c : Int) (h : (decide (-18446744073709551616 < c) && decide (c < 18446744073709551616)) = true) : cmulB x c = true := by
  unfold cmulB; rw [h, Bool.or_true]
theorem cm_l (c x : Int) (h : (decide (-18446744073709551616 < c) && decide (c < 18446744073709551616)) = true) : cmulB c x = true := by
  unfold cmulB; rw [h, Bool.true_or]
theorem cm_m (x y p : Int) (h0 : 0 < p) (h : p < 18446744073709551616) : cmulB (x % p) y = true := by
  have h1 := Int.emod_nonneg x (show p ≠ 0 by omega)
  have h2 := Int.emod_lt_of_pos x h0
  refine cm_l _ _ ?_
  rw [decide_eq_true (show -18446744073709551616 < x % p by omega), decide_eq_true (show x % p < 18446744073709551616 by omega)]
  rfl
/-- the text of _law_draw -/
def drawB : Ss := .cons (.ex (.bm .append (.var 1) (.cons (.cst (D.int (0))) (.nil))))
    (.cons (.set 3 (.blt .len (.cons (.var 1) (.nil))))
    (.cons (.set 4 (.cst (D.int (0))))
    (.cons (.ite (.val (.var 0)) (.cons (.set 4 (.idx (.var 0) (.bin .mod (.var 3) (.blt .len (.cons (.var 0) (.nil))))))
    (.nil)) (.nil))
    (.cons (.set 5 (.bin .mod (.bin .add (.var 4) (.bin .mul (.cst (D.int (104729))) (.var 3))) (.cst (D.int (4294967291)))))
    (.cons (.set 5 (.bin .mod (.bin .mul (.bin .mod (.bin .mul (.var 5) (.var 5)) (.cst (D.int (4294967279)))) (.cst (D.int (48271)))) (.cst (D.int (4294967291)))))
    (.cons (.set 6 (.bin .mod (.bin .mul (.bin .mod (.bin .mul (.var 5) (.var 5)) (.cst (D.int (4294967279)))) (.cst (D.int (69621)))) (.cst (D.int (4294967291)))))
    (.cons (.ret (.bin .mod (.bin .add (.bin .mul (.bin .fdiv (.var 5) (.cst (D.int (64)))) (.cst (D.int (67108864)))) (.bin .fdiv (.var 6) (.cst (D.int (64))))) (.var 2)))
    (.nil))))))))
def drawF : Fn := ⟨3, 7, false, drawB⟩
theorem idx_int (ns : List Int) {j : Int} (h0 : 0 ≤ j) (h1 : j < ns.length) : ∃ c, ∀ S, idxD (.lst (ns.map .int)) (.int j) S = .ok (.int c) S := by
  have hj : j.toNat < ns.length := by omega
  refine ⟨ns[j.toNat], fun S => ?_⟩
  show (match (ixD (ns.map D.int).length j).bind fun i => (ns.map D.int)[i]? with | some v => Res.ok v S | none => .bad) = _
  unfold ixD
  rw [List.length_map, if_pos h0, if_pos h1]
  simp [List.getElem?_map, List.getElem?_eq_getElem hj]
section
variable {fns : List Fn} {iD : Nat}
/-- the rest of a draw, behind the reading of the cell -/
theorem draw_tail {c : Calls} {script town : D} {m kk cell : Int} {S : Sto} (hm : 0 < m) : ∃ x σ', evSs c (.cons (.set 5 (.bin .mod (.bin .add (.var 4) (.bin .mul (.cst (D.int (104729))) (.var 3))) (.cst (D.int (4294967291)))))
    (.cons (.set 5 (.bin .mod (.bin .mul (.bin .mod (.bin .mul (.var 5) (.var 5)) (.cst (D.int (4294967279)))) (.cst (D.int (48271)))) (.cst (D.int (4294967291)))))
    (.cons (.set 6 (.bin .mod (.bin .mul (.bin .mod (.bin .mul (.var 5) (.var 5)) (.cst (D.int (4294967279)))) (.cst (D.int (69621)))) (.cst (D.int (4294967291)))))
    (.cons (.ret (.bin .mod (.bin .add (.bin .mul (.bin .fdiv (.var 5) (.cst (D.int (64)))) (.cst (D.int (67108864)))) (.bin .fdiv (.var 6) (.cst (D.int (64))))) (.var 2)))
    (.nil))))) [some script, some town, some (.int m), some (.int kk), some (.int cell), none, none] S = .ok (.ret (.int (x % m)), σ') S := by
  have p1 : decide ((0 : Int) < 4294967291) = true := by decide
  have p2 : decide ((0 : Int) < 4294967279) = true := by decide
  have p3 : (decide ((0 : Int) < 64) && decide ((64 : Int) < 1073741824)) = true := by decide
  have p4 : decide (0 < m) = true := decide_eq_true hm
  have q1 : ∀ x, cmulB 104729 x = true := fun x => cm_l _ _ (by decide)
  have q2 : ∀ x, cmulB x 48271 = true := fun x => cm_c _ _ (by decide)
  have q3 : ∀ x, cmulB x 69621 = true := fun x => cm_c _ _ (by decide)
  have q4 : ∀ x, cmulB x 67108864 = true := fun x => cm_c _ _ (by decide)
  have q5 : ∀ x y, cmulB (x % 4294967291) y = true := fun x y => cm_m _ _ _ (by decide) (by decide)
  refine ⟨?x, ?s, ?h⟩
  case h =>
    simp only [evSs, evS, evE, bok, List.getElem?_cons_zero, List.getElem?_cons_succ, List.set_cons_zero, List.set_cons_succ, binD, addD, mulD, modD, fdivD, p1, p2, p3, p4, q1, q2, q3, q4, q5, okV_t]
    rfl
theorem draw_ok (hD : fns[iD]? = some drawF) (k : Nat) (ns : List Int) {t : Nat} {S : Sto} {n : Nat} {m : Int} (hT : T t S n) (hn : n < 1000000) (hm : 0 < m) :
    ∃ r S', callN fns (k + 1) iD [.lst (ns.map .int), .obj t, .int m] S = .ok (.int r) S' ∧ 0 ≤ r ∧ r < m ∧ T t S' (n + 1) ∧ S'.length = S.length ∧ ∀ i, i ≠ t → S'[i]? = S[i]? := by
  obtain ⟨xs, hx, hl⟩ := hT
  have h0 : t < S.length := (List.getElem?_eq_some_iff.mp hx).1
  have hs : (S.set t (.lst (xs ++ [.int 0])))[t]? = some (.lst (xs ++ [.int 0])) := List.getElem?_set_self h0
  have e1 : decide (xs.length < sizeL) = true := decide_eq_true (by unfold sizeL; omega)
  have fin : ∀ {S' : Sto}, S' = S.set t (.lst (xs ++ [.int 0])) → T t S' (n + 1) ∧ S'.length = S.length ∧ ∀ i, i ≠ t → S'[i]? = S[i]? := fun e => by
    subst e
    exact ⟨⟨_, hs, by simp; omega⟩, by simp, fun i hi => List.getElem?_set_ne (Ne.symm hi)⟩
  -- the reading of the cell
  have cell : ∃ cell, evS (callN fns k) (.ite (.val (.var 0)) (.cons (.set 4 (.idx (.var 0) (.bin .mod (.var 3) (.blt .len (.cons (.var 0) (.nil)))))) (.nil)) (.nil)) [some (.lst (ns.map .int)), some (.obj t), some (.int m), some (.int ((xs ++ [D.int 0]).length : Nat)), some (.int 0), none, none] (S.set t (.lst (xs ++ [.int 0])))
      = .ok (.nx, [some (.lst (ns.map .int)), some (.obj t), some (.int m), some (.int ((xs ++ [D.int 0]).length : Nat)), some (.int cell), none, none]) (S.set t (.lst (xs ++ [.int 0]))) := by
    cases ns with
    | nil => exact ⟨0, by simp only [evS, evT, evE, bok, List.getElem?_cons_zero, truD, List.map_nil, List.isEmpty_nil, Bool.not_true, Bool.false_eq_true, if_false, evSs]⟩
    | cons a ns =>
      have hp : (0 : Int) < ((List.map D.int (a :: ns)).length : Nat) := by simp only [List.length_map, List.length_cons]; omega
      obtain ⟨cv, hc⟩ := idx_int (a :: ns) (j := (((xs ++ [D.int 0]).length : Nat) : Int) % ((List.map D.int (a :: ns)).length : Nat)) (Int.emod_nonneg _ (by omega)) (by
        have := Int.emod_lt_of_pos (((xs ++ [D.int 0]).length : Nat) : Int) hp
        simpa using this)
      refine ⟨cv, ?_⟩
      have hp' := decide_eq_true hp
      have ht : truD (.lst (List.map D.int (a :: ns))) (S.set t (.lst (xs ++ [.int 0]))) = some true := rfl
      simp only [evS, evT, evE, evA, bok, List.getElem?_cons_zero, List.getElem?_cons_succ, ht, if_true, evSs, bltD, bLen, lenD, itemsD, Option.map_some, binD, modD, hp', okV_t, hc, List.set_cons_zero, List.set_cons_succ]
  obtain ⟨cv, hc⟩ := cell
  obtain ⟨x, σ', hr⟩ := draw_tail (c := callN fns k) (script := .lst (ns.map .int)) (town := .obj t) (kk := ((xs ++ [D.int 0]).length : Nat)) (cell := cv) (S := S.set t (.lst (xs ++ [.int 0]))) hm
  refine ⟨x % m, _, ?_, Int.emod_nonneg _ (by omega), Int.emod_lt_of_pos _ hm, fin rfl⟩
  rw [call_at hD rfl]
  have a1 : evS (callN fns k) (.ex (.bm .append (.var 1) (.cons (.cst (D.int (0))) (.nil)))) [some (.lst (ns.map .int)), some (.obj t), some (.int m), none, none, none, none] S = .ok (.nx, [some (.lst (ns.map .int)), some (.obj t), some (.int m), none, none, none, none]) (S.set t (.lst (xs ++ [.int 0]))) := by
    simp only [evS, evE, evA, bok, List.getElem?_cons_zero, List.getElem?_cons_succ, bmPre, isLO, hx, if_true, bmD, mAppend, e1, okV_t]
  have a2 : evS (callN fns k) (.set 3 (.blt .len (.cons (.var 1) (.nil)))) [some (.lst (ns.map .int)), some (.obj t), some (.int m), none, none, none, none] (S.set t (.lst (xs ++ [.int 0]))) = .ok (.nx, [some (.lst (ns.map .int)), some (.obj t), some (.int m), some (.int ((xs ++ [D.int 0]).length : Nat)), none, none, none]) (S.set t (.lst (xs ++ [.int 0]))) := by
    simp only [evS, evE, evA, bok, List.getElem?_cons_zero, List.getElem?_cons_succ, bltD, bLen, lenD, itemsD, hs, Option.map_some, List.set_cons_zero, List.set_cons_succ]
  show (evSs (callN fns k) drawB [some (.lst (ns.map .int)), some (.obj t), some (.int m), none, none, none, none] S).bind _ = _
  unfold drawB
  rw [ss_nx a1, ss_nx a2, ss_nx (show evS (callN fns k) (.set 4 (.cst (D.int (0)))) _ _ = .ok (.nx, [some (.lst (ns.map .int)), some (.obj t), some (.int m), some (.int ((xs ++ [D.int 0]).length : Nat)), some (.int 0), none, none]) _ from by simp only [evS, evE, bok]; rfl), ss_nx hc, hr]
  rfl
end
end Ev

namespace Ev
/-! ### trees, worlds, what a tick does -/
inductive Tr where
  | iff (c : Nat) | act (c : Nat) | inv (t : Tr) | row (ts : List Tr) | pick (ts : List Tr) | hold (ts : List Tr)
mutual
def enc : Tr → D
  | .iff c => .tup [.str [105, 102], .str [c]]
  | .act c => .tup [.str [100, 111], .str [c]]
  | .inv t => .tup [.str [110, 111, 116], enc t]
  | .row ts => .tup [.str [114, 111, 119], .tup (encs ts)]
  | .pick ts => .tup [.str [112, 105, 99, 107], .tup (encs ts)]
  | .hold ts => .tup [.str [104, 111, 108, 100], .tup (encs ts)]
def encs : List Tr → List D
  | [] => []
  | t :: ts => enc t :: encs ts
end
mutual
/-- how deep the calls go -/
def dep : Tr → Nat
  | .iff _ => 1
  | .act _ => 1
  | .inv t => dep t + 1
  | .row ts => deps ts + 2
  | .pick ts => deps ts + 2
  | .hold ts => deps ts + 3
def deps : List Tr → Nat
  | [] => 0
  | t :: ts => max (dep t) (deps ts)
end
mutual
def siz : Tr → Nat
  | .iff _ => 1
  | .act _ => 1
  | .inv t => siz t + 1
  | .row ts => sizs ts + 1
  | .pick ts => sizs ts + 1
  | .hold ts => sizs ts + 1
def sizs : List Tr → Nat
  | [] => 0
  | t :: ts => siz t + sizs ts
end
structure Wd where
  ss : List Nat
  p : Nat
  q : Nat
  r : Nat
def Wd.enc (w : Wd) : D := .tup [.str w.ss, .str [w.p, w.q, w.r]]
def Wd.come (w : Wd) (c : Nat) : Nat := if c = 112 then w.p else if c = 113 then w.q else w.r
def turn (s : Nat) : Nat := if s = 100 then 102 else if s = 102 then 100 else s
/-- deeds, what comes, the places held, in order -/
structure Out where
  ds : List Nat
  s : Nat
  ps : List (List Int × Nat)
structure OutA where
  ds : List Nat
  s : Nat
  ps : List (List Int × Nat)
  j : Nat
mutual
def tk (w : Wd) (bf : List Int → Nat) : Tr → List Int → Out
  | .iff c, _ => ⟨[], if c ∈ w.ss then 100 else 102, []⟩
  | .act c, _ => ⟨[c], w.come c, []⟩
  | .inv t, y => ⟨(tk w bf t (y ++ [0])).ds, turn (tk w bf t (y ++ [0])).s, (tk w bf t (y ++ [0])).ps⟩
  | .row ts, y => ⟨(al w bf 100 ts y 0 0).ds, (al w bf 100 ts y 0 0).s, (al w bf 100 ts y 0 0).ps⟩
  | .pick ts, y => ⟨(al w bf 102 ts y 0 0).ds, (al w bf 102 ts y 0 0).s, (al w bf 102 ts y 0 0).ps⟩
  | .hold ts, y => ⟨(al w bf 100 ts y 0 (bf y)).ds, (al w bf 100 ts y 0 (bf y)).s, if (al w bf 100 ts y 0 (bf y)).s = 103 then (al w bf 100 ts y 0 (bf y)).ps ++ [(y, (al w bf 100 ts y 0 (bf y)).j)] else (al w bf 100 ts y 0 (bf y)).ps⟩
def al (w : Wd) (bf : List Int → Nat) (g : Nat) : List Tr → List Int → Nat → Nat → OutA
  | [], _, i, _ => ⟨[], g, [], i⟩
  | t :: r, y, i, 0 => if (tk w bf t (y ++ [(i : Int)])).s = g ∧ r ≠ [] then
      ⟨(tk w bf t (y ++ [(i : Int)])).ds ++ (al w bf g r y (i + 1) 0).ds, (al w bf g r y (i + 1) 0).s, (tk w bf t (y ++ [(i : Int)])).ps ++ (al w bf g r y (i + 1) 0).ps, (al w bf g r y (i + 1) 0).j⟩
    else ⟨(tk w bf t (y ++ [(i : Int)])).ds, (tk w bf t (y ++ [(i : Int)])).s, (tk w bf t (y ++ [(i : Int)])).ps, i⟩
  | t :: r, y, i, k + 1 => al w bf g r y (i + 1) k
end
/-- the signs are d, f, g -/
def Wd.Ok (w : Wd) : Prop := (w.p = 100 ∨ w.p = 102 ∨ w.p = 103) ∧ (w.q = 100 ∨ w.q = 102 ∨ w.q = 103) ∧ (w.r = 100 ∨ w.r = 102 ∨ w.r = 103)
theorem Wd.Ok.come {w : Wd} (h : w.Ok) (c : Nat) : w.come c = 100 ∨ w.come c = 102 ∨ w.come c = 103 := by
  unfold Wd.come
  split
  · exact h.1
  · split
    · exact h.2.1
    · exact h.2.2
mutual
/-- deeds are p, q, r; a row has parts; a hold's place is one of its parts -/
def Good (bf : List Int → Nat) : Tr → List Int → Prop
  | .iff _, _ => True
  | .act c, _ => c = 112 ∨ c = 113 ∨ c = 114
  | .inv t, y => Good bf t (y ++ [0])
  | .row ts, y => ts ≠ [] ∧ Goods bf ts y 0
  | .pick ts, y => ts ≠ [] ∧ Goods bf ts y 0
  | .hold ts, y => bf y < ts.length ∧ Goods bf ts y 0
def Goods (bf : List Int → Nat) : List Tr → List Int → Nat → Prop
  | [], _, _ => True
  | t :: ts, y, i => Good bf t (y ++ [(i : Int)]) ∧ Goods bf ts y (i + 1)
end
mutual
theorem tk_sign {w : Wd} (hw : w.Ok) {bf : List Int → Nat} : ∀ (t : Tr) (y : List Int), Good bf t y → (tk w bf t y).s = 100 ∨ (tk w bf t y).s = 102 ∨ (tk w bf t y).s = 103
  | .iff c, y, _ => by simp only [tk]; split <;> simp
  | .act c, y, _ => by simp only [tk]; exact hw.come c
  | .inv t, y, h => by
    have := tk_sign hw t (y ++ [0]) h
    simp only [tk]
    unfold turn
    rcases this with e | e | e <;> rw [e] <;> simp
  | .row ts, y, h => by simp only [tk]; exact al_sign hw (.inl rfl) ts y 0 0 h.2
  | .pick ts, y, h => by simp only [tk]; exact al_sign hw (.inr (.inl rfl)) ts y 0 0 h.2
  | .hold ts, y, h => by simp only [tk]; exact al_sign hw (.inl rfl) ts y 0 (bf y) h.2
theorem al_sign {w : Wd} (hw : w.Ok) {bf : List Int → Nat} {g : Nat} (hg : g = 100 ∨ g = 102 ∨ g = 103) : ∀ (ts : List Tr) (y : List Int) (i k : Nat), Goods bf ts y i → (al w bf g ts y i k).s = 100 ∨ (al w bf g ts y i k).s = 102 ∨ (al w bf g ts y i k).s = 103
  | [], _, _, _, _ => by simp only [al]; exact hg
  | t :: r, y, i, 0, h => by
    simp only [al]
    split
    · exact al_sign hw hg r y (i + 1) 0 h.2
    · exact tk_sign hw t _ h.1
  | t :: r, y, i, k + 1, h => by
    simp only [al]
    exact al_sign hw hg r y (i + 1) k h.2
end
mutual
theorem tk_small {w : Wd} {bf : List Int → Nat} : ∀ (t : Tr) (y : List Int), (tk w bf t y).ds.length ≤ siz t ∧ (tk w bf t y).ps.length ≤ siz t
  | .iff c, y => by simp [tk, siz]
  | .act c, y => by simp [tk, siz]
  | .inv t, y => by
    have := tk_small (w := w) (bf := bf) t (y ++ [0])
    simp only [tk, siz]; omega
  | .row ts, y => by
    have := al_small (w := w) (bf := bf) (g := 100) ts y 0 0
    simp only [tk, siz]; omega
  | .pick ts, y => by
    have := al_small (w := w) (bf := bf) (g := 102) ts y 0 0
    simp only [tk, siz]; omega
  | .hold ts, y => by
    have := al_small (w := w) (bf := bf) (g := 100) ts y 0 (bf y)
    simp only [tk, siz]
    split
    · simp; omega
    · omega
theorem al_small {w : Wd} {bf : List Int → Nat} {g : Nat} : ∀ (ts : List Tr) (y : List Int) (i k : Nat), (al w bf g ts y i k).ds.length ≤ sizs ts ∧ (al w bf g ts y i k).ps.length ≤ sizs ts
  | [], _, _, _ => by simp [al]
  | t :: r, y, i, 0 => by
    have h1 := tk_small (w := w) (bf := bf) t (y ++ [(i : Int)])
    have h2 := al_small (w := w) (bf := bf) (g := g) r y (i + 1) 0
    simp only [al, sizs]
    split
    · simp; omega
    · simp; omega
  | t :: r, y, i, k + 1 => by
    have h2 := al_small (w := w) (bf := bf) (g := g) r y (i + 1) k
    simp only [al, sizs]; omega
end
end Ev

namespace Ev
/-! ### a tick, as the program does it -/
theorem eqS (x y : List Nat) (S : Sto) : cmpD .eq (.str x) (.str y) S = .ok (.bl (x == y)) S := rfl
theorem eqI (x y : Int) (S : Sto) : cmpD .eq (.int x) (.int y) S = .ok (.bl (x == y)) S := rfl
theorem ltI (x y : Int) (S : Sto) : cmpD .lt (.int x) (.int y) S = .ok (.bl (decide (x < y))) S := rfl
theorem addI (x y : Int) (S : Sto) : binD .add (.int x) (.int y) S = .ok (.int (x + y)) S := rfl
theorem subI (x y : Int) (S : Sto) : binD .sub (.int x) (.int y) S = .ok (.int (x - y)) S := rfl
theorem cmp_isin (c : Nat) (z : List Nat) (S : Sto) : cmpD .isin (.str [c]) (.str z) S = .ok (.bl (z.contains c)) S := rfl
theorem wEnc0 (w : Wd) (S : Sto) : idxD w.enc (.int 0) S = .ok (.str w.ss) S := rfl
theorem wEnc1 (w : Wd) (S : Sto) : idxD w.enc (.int 1) S = .ok (.str [w.p, w.q, w.r]) S := rfl
theorem lk0 (a b c d : D) : List.lookup 0 [((0 : Nat), a), (1, b), (2, c), (3, d)] = some a := rfl
theorem lk1 (a b c d : D) : List.lookup 1 [((0 : Nat), a), (1, b), (2, c), (3, d)] = some b := rfl
theorem lk2 (a b c d : D) : List.lookup 2 [((0 : Nat), a), (1, b), (2, c), (3, d)] = some c := rfl
theorem lk3 (a b c d : D) : List.lookup 3 [((0 : Nat), a), (1, b), (2, c), (3, d)] = some d := rfl
def ctB (iC iH iA : Nat) : Ss := .cons (.unp [3, 4] (.var 1))
    (.cons (.ite (.cmp .eq (.var 3) (.cst (D.str [105, 102]))) (.cons (.ret (.ite (.cmp .isin (.var 4) (.idx (.fld 0 (.var 0) 0) (.cst (D.int (0))))) (.cst (D.str [100])) (.cst (D.str [102]))))
    (.nil)) (.nil))
    (.cons (.ite (.cmp .eq (.var 3) (.cst (D.str [100, 111]))) (.cons (.ex (.bm .append (.fld 0 (.var 0) 3) (.cons (.var 4) (.nil))))
    (.cons (.ret (.idx (.idx (.fld 0 (.var 0) 0) (.cst (D.int (1)))) (.gtix "DEEDS" [[112], [113], [114]] (.var 4))))
    (.nil))) (.nil))
    (.cons (.ite (.cmp .eq (.var 3) (.cst (D.str [110, 111, 116]))) (.cons (.ret (.gdict "TURNED" [([100], [102]), ([102], [100]), ([103], [103])] (.meth 0 iC (.var 0) (.cons (.var 4) (.cons (.bin .add (.var 2) (.tup (.cons (.cst (D.int (0))) (.nil)))) (.nil))))))
    (.nil)) (.nil))
    (.cons (.ite (.cmp .eq (.var 3) (.cst (D.str [104, 111, 108, 100]))) (.cons (.ret (.meth 0 iH (.var 0) (.cons (.var 4) (.cons (.var 2) (.nil)))))
    (.nil)) (.nil))
    (.cons (.ret (.idx (.meth 0 iA (.var 0) (.cons (.var 4) (.cons (.var 2) (.cons (.cst (D.int (0))) (.cons (.ite (.cmp .eq (.var 3) (.cst (D.str [112, 105, 99, 107]))) (.cst (D.str [102])) (.cst (D.str [100]))) (.nil)))))) (.cst (D.int (0)))))
    (.nil))))))
def ctF (iC iH iA : Nat) : Fn := ⟨3, 5, false, ctB iC iH iA⟩
def chB (iA : Nat) : Ss := .cons (.unp [3, 4] (.meth 0 iA (.var 0) (.cons (.var 1) (.cons (.var 2) (.cons (.dget (.fld 0 (.var 0) 1) (.var 2) (.cst (D.int (0)))) (.cons (.cst (D.str [100])) (.nil)))))))
    (.cons (.ite (.cmp .eq (.var 3) (.cst (D.str [103]))) (.cons (.dput (.fld 0 (.var 0) 2) (.var 2) (.var 4))
    (.nil)) (.nil))
    (.cons (.ret (.var 3))
    (.nil)))
def chF (iA : Nat) : Fn := ⟨3, 5, false, chB iA⟩
def caW (iC : Nat) : Ss := .cons (.aug .add 3 (.cst (D.int (1))))
    (.cons (.set 5 (.meth 0 iC (.var 0) (.cons (.idx (.var 1) (.var 3)) (.cons (.bin .add (.var 2) (.tup (.cons (.var 3) (.nil)))) (.nil)))))
    (.nil))
def caT : Ts := .and (.cmp .eq (.var 5) (.var 4)) (.cmp .lt (.bin .add (.var 3) (.cst (D.int (1)))) (.blt .len (.cons (.var 1) (.nil))))
def caB (iC : Nat) : Ss := .cons (.set 5 (.meth 0 iC (.var 0) (.cons (.idx (.var 1) (.var 3)) (.cons (.bin .add (.var 2) (.tup (.cons (.var 3) (.nil)))) (.nil)))))
    (.cons (.while caT (caW iC))
    (.cons (.ret (.tup (.cons (.var 5) (.cons (.var 3) (.nil)))))
    (.nil)))
def caF (iC : Nat) : Fn := ⟨5, 6, false, caB iC⟩
def wayD (y : List Int) : D := .tup (y.map .int)
theorem way_add {y : List Int} {i : Int} {S : Sto} (h : y.length ≤ 1000) : binD .add (wayD y) (.tup [.int i]) S = .ok (wayD (y ++ [i])) S := by
  show okV (decide _) (D.tup (y.map D.int ++ [.int i])) S = _
  rw [decide_eq_true (by unfold sizeL; simp; omega)]
  simp [okV, wayD]
theorem way_keys : ∀ y : List Int, keysI (y.map .int) = some (y.map Ky.i)
  | [] => rfl
  | i :: y => by simp [keysI, way_keys y]
structure TA (o b pl dl : Nat) (w : Wd) (bf : List Int → Nat) (S : Sto) (ds : List D) (kp : List (List Ky × D)) : Prop where
  ho : S[o]? = some (.ins 0 [(0, w.enc), (1, .obj b), (2, .obj pl), (3, .obj dl)])
  hb : ∃ kb, S[b]? = some (.dct kb) ∧ ∀ y : List Int, (valD kb (y.map Ky.i)).getD (.int 0) = .int (bf y)
  hp : S[pl]? = some (.dct kp)
  hd : S[dl]? = some (.lst ds)
  ne : b ≠ pl
def Fr (pl dl : Nat) (S S' : Sto) : Prop := S'.length = S.length ∧ ∀ i, i ≠ pl → i ≠ dl → S'[i]? = S[i]?
theorem Fr.refl {pl dl : Nat} {S : Sto} : Fr pl dl S S := ⟨rfl, fun _ _ _ => rfl⟩
theorem Fr.trans {pl dl : Nat} {S1 S2 S3 : Sto} (h : Fr pl dl S1 S2) (g : Fr pl dl S2 S3) : Fr pl dl S1 S3 := ⟨g.1.trans h.1, fun i a b => (g.2 i a b).trans (h.2 i a b)⟩
theorem lt_of_at {S : Sto} {i : Nat} {a : AO} (h : S[i]? = some a) : i < S.length := (List.getElem?_eq_some_iff.mp h).1
theorem set_at {S : Sto} {i : Nat} {a b : AO} (h : S[i]? = some a) : (S.set i b)[i]? = some b := List.getElem?_set_self (lt_of_at h)
theorem set_off {S : Sto} {i j : Nat} {b : AO} (h : j ≠ i) : (S.set i b)[j]? = S[j]? := List.getElem?_set_ne (Ne.symm h)
theorem ne_at {S : Sto} {i j : Nat} {a b : AO} (h : S[i]? = some a) (g : S[j]? = some b) (n : a ≠ b) : i ≠ j := fun e => by
  subst e; rw [h] at g; exact n (Option.some.inj g)
section
variable {o b pl dl : Nat} {w : Wd} {bf : List Int → Nat}
theorem TA.app {S : Sto} {ds : List D} {kp : List (List Ky × D)} (h : TA o b pl dl w bf S ds kp) (ds' : List D) : TA o b pl dl w bf (S.set dl (.lst ds')) ds' kp := by
  obtain ⟨kb, h1, h2⟩ := h.hb
  have n1 : o ≠ dl := ne_at h.ho h.hd nofun
  have n2 : b ≠ dl := ne_at h1 h.hd nofun
  have n3 : pl ≠ dl := ne_at h.hp h.hd nofun
  exact ⟨by rw [set_off n1]; exact h.ho, ⟨kb, by rw [set_off n2]; exact h1, h2⟩, by rw [set_off n3]; exact h.hp, set_at h.hd, h.ne⟩
theorem TA.put {S : Sto} {ds : List D} {kp : List (List Ky × D)} (h : TA o b pl dl w bf S ds kp) (kp' : List (List Ky × D)) : TA o b pl dl w bf (S.set pl (.dct kp')) ds kp' := by
  obtain ⟨kb, h1, h2⟩ := h.hb
  have n1 : o ≠ pl := ne_at h.ho h.hp nofun
  have n3 : dl ≠ pl := ne_at h.hd h.hp nofun
  exact ⟨by rw [set_off n1]; exact h.ho, ⟨kb, by rw [set_off h.ne]; exact h1, h2⟩, set_at h.hp, by rw [set_off n3]; exact h.hd, h.ne⟩
theorem fr_app {S : Sto} {a : AO} : Fr pl dl S (S.set dl a) := ⟨by simp, fun i _ n => set_off n⟩
theorem fr_put {S : Sto} {a : AO} : Fr pl dl S (S.set pl a) := ⟨by simp, fun i n _ => set_off n⟩
def signs (ds : List Nat) : List D := ds.map fun c => .str [c]
def puts (kp : List (List Ky × D)) (ps : List (List Int × Nat)) : List (List Ky × D) := ps.foldl (fun k p => putD k (p.1.map Ky.i) (.int (p.2 : Nat))) kp
theorem puts_app (kp : List (List Ky × D)) (ps qs : List (List Int × Nat)) : puts kp (ps ++ qs) = puts (puts kp ps) qs := by simp [puts, List.foldl_append]
theorem put_len (kp : List (List Ky × D)) (k : List Ky) (v : D) : (putD kp k v).length ≤ kp.length + 1 := by
  unfold putD; split <;> simp
theorem puts_len : ∀ (ps : List (List Int × Nat)) (kp : List (List Ky × D)), (puts kp ps).length ≤ kp.length + ps.length
  | [], kp => by simp [puts]
  | p :: ps, kp => by
    have h1 := puts_len ps (putD kp (p.1.map Ky.i) (.int (p.2 : Nat)))
    have h2 := put_len kp (p.1.map Ky.i) (.int (p.2 : Nat))
    show (puts (putD kp (p.1.map Ky.i) (.int (p.2 : Nat))) ps).length ≤ _
    simp only [List.length_cons]; omega
theorem al_drop {g : Nat} : ∀ (ts : List Tr) (y : List Int) (i k : Nat), k ≤ ts.length → al w bf g ts y i k = al w bf g (ts.drop k) y (i + k) 0
  | ts, y, i, 0, _ => by simp
  | t :: r, y, i, k + 1, h => by
    simp only [al, List.drop_succ_cons]
    rw [al_drop r y (i + 1) k (by simpa using h)]
    congr 1; omega
theorem goods_drop : ∀ (ts : List Tr) (y : List Int) (i k : Nat), Goods bf ts y i → Goods bf (ts.drop k) y (i + k)
  | ts, y, i, 0, h => h
  | [], y, i, k + 1, h => trivial
  | t :: r, y, i, k + 1, h => by
    have := goods_drop r y (i + 1) k h.2
    rwa [show i + 1 + k = i + (k + 1) by omega] at this
theorem encs_eq : ∀ ts : List Tr, encs ts = ts.map enc
  | [] => rfl
  | t :: ts => by simp only [encs, List.map_cons, encs_eq ts]
theorem siz_pos : ∀ t : Tr, 1 ≤ siz t
  | .iff _ => Nat.le_refl _
  | .act _ => Nat.le_refl _
  | .inv t => by simp only [siz]; omega
  | .row t => by simp only [siz]; omega
  | .pick t => by simp only [siz]; omega
  | .hold t => by simp only [siz]; omega
theorem sizs_len : ∀ ts : List Tr, ts.length ≤ sizs ts
  | [] => Nat.le_refl _
  | t :: ts => by
    have := sizs_len ts
    have := siz_pos t
    simp only [sizs, List.length_cons]; omega
theorem sizs_app : ∀ ts us : List Tr, sizs (ts ++ us) = sizs ts + sizs us
  | [], us => by simp [sizs]
  | t :: ts, us => by simp only [List.cons_append, sizs, sizs_app ts us]; omega
theorem deps_mem : ∀ {ts : List Tr} {t : Tr}, t ∈ ts → dep t ≤ deps ts
  | t :: ts, u, h => by
    simp only [deps]
    rcases List.mem_cons.mp h with e | h
    · subst e; exact Nat.le_max_left _ _
    · exact Nat.le_trans (deps_mem h) (Nat.le_max_right _ _)
/-- room for a part's deeds, places, ways -/
def Room (t : Nat) (d : Nat) (y : List Int) (ds : List D) (kp : List (List Ky × D)) : Prop := ds.length + t ≤ 900 ∧ kp.length + t ≤ 900 ∧ y.length + d ≤ 900
variable (o b pl dl w bf) in
/-- come_to keeps its word at this depth -/
def PC (c : Calls) (iC n : Nat) : Prop := ∀ (t : Tr) (y : List Int) (S : Sto) (ds : List D) (kp : List (List Ky × D)), dep t ≤ n → Good bf t y → TA o b pl dl w bf S ds kp → Room (siz t) (dep t) y ds kp →
  ∃ S', c iC [.obj o, enc t, wayD y] S = .ok (.str [(tk w bf t y).s]) S' ∧ TA o b pl dl w bf S' (ds ++ signs (tk w bf t y).ds) (puts kp (tk w bf t y).ps) ∧ Fr pl dl S S'
variable (o b pl dl w bf) in
def PA (c : Calls) (iA n : Nat) : Prop := ∀ (ts : List Tr) (y : List Int) (k : Nat) (g : Nat) (S : Sto) (ds : List D) (kp : List (List Ky × D)), deps ts + 1 ≤ n → k < ts.length → Goods bf ts y 0 → TA o b pl dl w bf S ds kp → Room (sizs ts) (deps ts + 1) y ds kp →
  ∃ S', c iA [.obj o, .tup (encs ts), wayD y, .int (k : Nat), .str [g]] S = .ok (.tup [.str [(al w bf g ts y 0 k).s], .int ((al w bf g ts y 0 k).j : Nat)]) S' ∧ TA o b pl dl w bf S' (ds ++ signs (al w bf g ts y 0 k).ds) (puts kp (al w bf g ts y 0 k).ps) ∧ Fr pl dl S S'
variable (o b pl dl w bf) in
def PH (c : Calls) (iH n : Nat) : Prop := ∀ (ts : List Tr) (y : List Int) (S : Sto) (ds : List D) (kp : List (List Ky × D)), deps ts + 2 ≤ n → Good bf (.hold ts) y → TA o b pl dl w bf S ds kp → Room (sizs ts + 1) (deps ts + 2) y ds kp →
  ∃ S', c iH [.obj o, .tup (encs ts), wayD y] S = .ok (.str [(tk w bf (.hold ts) y).s]) S' ∧ TA o b pl dl w bf S' (ds ++ signs (tk w bf (.hold ts) y).ds) (puts kp (tk w bf (.hold ts) y).ps) ∧ Fr pl dl S S'
/-- the loop of come_along: behind the part at i, of which s came -/
theorem along_loop {c : Calls} {iC n : Nat} (hC : PC o b pl dl w bf c iC n) {ts : List Tr} {y : List Int} {g : Nat} (hd : deps ts ≤ n) : ∀ (r : List Tr) (pre : List Tr) (t : Tr) (s : Nat) (S : Sto) (ds : List D) (kp : List (List Ky × D)) (f : Nat), ts = pre ++ t :: r → Goods bf r y (pre.length + 1) → TA o b pl dl w bf S ds kp → Room (sizs r) (deps ts + 1) y ds kp → r.length < f →
    ∃ S' σ', whileD (fun σ S => evT c caT σ S) (fun σ S => evSs c (caW iC) σ S) f [some (.obj o), some (.tup (encs ts)), some (wayD y), some (.int (pre.length : Nat)), some (.str [g]), some (.str [s])] S
      = .ok (.nx, σ') S' ∧ σ' = [some (.obj o), some (.tup (encs ts)), some (wayD y), some (.int ((if s = g ∧ r ≠ [] then (al w bf g r y (pre.length + 1) 0).j else pre.length : Nat) : Nat)), some (.str [g]), some (.str [if s = g ∧ r ≠ [] then (al w bf g r y (pre.length + 1) 0).s else s])]
      ∧ TA o b pl dl w bf S' (ds ++ signs (if s = g ∧ r ≠ [] then (al w bf g r y (pre.length + 1) 0).ds else [])) (puts kp (if s = g ∧ r ≠ [] then (al w bf g r y (pre.length + 1) 0).ps else [])) ∧ Fr pl dl S S' := by
  intro r
  induction r with
  | nil =>
    intro pre t s S ds kp f e hg hT hR hf
    obtain ⟨f, rfl⟩ : ∃ k, f = k + 1 := ⟨f - 1, by omega⟩
    have hl : decide (((pre.length : Nat) : Int) + 1 < ((encs ts).length : Nat)) = false := decide_eq_false (by rw [encs_eq, List.length_map, e]; simp)
    refine ⟨S, _, ?_, rfl, ?_, Fr.refl⟩
    · unfold whileD caT
      simp only [evSs, evS, evE, evA, evT, evTq, evSr, evP, bok, List.getElem?_cons_zero, List.getElem?_cons_succ, List.set_cons_zero, List.set_cons_succ, okV_t, if_true, if_false, Bool.false_eq_true, setTg, setAll, eqS, eqI, ltI, addI, subI, wEnc0, wEnc1, lk0, lk1, lk2, lk3, cmp_isin, bltD, bLen, lenD, itemsD, Option.map_some, hl, ne_eq, not_true_eq_false, and_false]
      cases ([s] == [g]) <;> rfl
    · simpa [signs, puts] using hT
  | cons u r ih =>
    intro pre t s S ds kp f e hg hT hR hf
    obtain ⟨f, rfl⟩ : ∃ k, f = k + 1 := ⟨f - 1, by omega⟩
    have hl : decide (((pre.length : Nat) : Int) + 1 < ((encs ts).length : Nat)) = true := decide_eq_true (by rw [encs_eq, List.length_map, e]; simp; omega)
    by_cases hs : s = g
    · subst hs
      have hsb : ([s] == [s]) = true := by simp
      have hmem : u ∈ ts := by rw [e]; simp
      have hdu : dep u ≤ n := Nat.le_trans (deps_mem hmem) hd
      obtain ⟨r1, r2, r3⟩ := hR
      simp only [sizs] at r1 r2
      have hix : ∀ S, idxD (.tup (encs ts)) (.int ((pre.length : Nat) + 1)) S = .ok (enc u) S := fun S => by
        show (match (ixD (encs ts).length ((pre.length : Nat) + 1)).bind fun i => (encs ts)[i]? with | some v => Res.ok v S | none => .bad) = _
        unfold ixD
        rw [if_pos (by omega), if_pos (of_decide_eq_true hl)]
        have : (encs ts)[(((pre.length : Nat) : Int) + 1).toNat]? = some (enc u) := by
          rw [encs_eq, show (((pre.length : Nat) : Int) + 1).toNat = pre.length + 1 by omega, e]
          simp
        simp only [Option.bind_some, this]
      obtain ⟨S1, c1, c2, c3⟩ := hC u (y ++ [((pre.length + 1 : Nat) : Int)]) S ds kp hdu hg.1 hT ⟨by omega, by omega, by
        have := deps_mem hmem
        simp; omega⟩
      have hsm := tk_small (w := w) (bf := bf) u (y ++ [((pre.length + 1 : Nat) : Int)])
      have hpl := puts_len (tk w bf u (y ++ [((pre.length + 1 : Nat) : Int)])).ps kp
      obtain ⟨S2, σ2, d1, d2, d3, d4⟩ := ih (pre ++ [t]) u (tk w bf u (y ++ [((pre.length + 1 : Nat) : Int)])).s S1 _ _ f (by rw [e]; simp) (by simpa using hg.2) c2 ⟨by simp only [signs, List.length_append, List.length_map]; omega, by omega, r3⟩ (by simpa using hf)
      refine ⟨S2, σ2, ?_, ?_, ?_, c3.trans d4⟩
      · unfold whileD caT
        have hw : ∀ S, binD .add (wayD y) (.tup [.int ((pre.length : Nat) + 1)]) S = .ok (wayD (y ++ [((pre.length + 1 : Nat) : Int)])) S := fun S => by
          rw [way_add (by omega)]; rfl
        have ho := hT.ho
        have hz : decide ([D.int ((pre.length : Nat) + 1)].length ≤ sizeL) = true := rfl
        simp only [evSs, evS, evE, evA, evT, evTq, evSr, evP, bok, List.getElem?_cons_zero, List.getElem?_cons_succ, List.set_cons_zero, List.set_cons_succ, okV_t, if_true, if_false, Bool.false_eq_true, setTg, setAll, eqS, eqI, ltI, addI, subI, wEnc0, wEnc1, lk0, lk1, lk2, lk3, cmp_isin, bltD, bLen, lenD, itemsD, Option.map_some, hl, hsb]
        unfold caW
        simp only [evSs, evS, evE, evA, evT, evTq, evSr, evP, bok, List.getElem?_cons_zero, List.getElem?_cons_succ, List.set_cons_zero, List.set_cons_succ, okV_t, if_true, if_false, Bool.false_eq_true, setTg, setAll, eqS, eqI, ltI, addI, subI, wEnc0, wEnc1, lk0, lk1, lk2, lk3, cmp_isin, bltD, bLen, lenD, itemsD, Option.map_some, hix, hw, ho, hz, c1]
        rw [← d1]
        unfold caT caW
        simp only [List.length_append, List.length_singleton]
        rfl
      · rw [d2]
        simp only [List.length_append, List.length_singleton, ne_eq, reduceCtorEq, not_false_eq_true, and_self, if_true, al]
        split <;> rfl
      · simp only [List.length_append, List.length_singleton] at d3
        simp only [ne_eq, reduceCtorEq, not_false_eq_true, and_self, if_true, al]
        by_cases hq : (tk w bf u (y ++ [((pre.length + 1 : Nat) : Int)])).s = s ∧ r ≠ []
        · rw [if_pos hq, if_pos hq] at d3
          rw [if_pos hq]
          simp only [signs, List.map_append, puts_app, ← List.append_assoc] at d3 ⊢
          exact d3
        · rw [if_neg hq, if_neg hq] at d3
          rw [if_neg hq]
          simpa [signs, puts] using d3
    · have hsb : ([s] == [g]) = false := by simp [hs]
      refine ⟨S, _, ?_, rfl, ?_, Fr.refl⟩
      · unfold whileD caT
        simp only [evSs, evS, evE, evA, evT, evTq, evSr, evP, bok, List.getElem?_cons_zero, List.getElem?_cons_succ, List.set_cons_zero, List.set_cons_succ, okV_t, if_true, if_false, Bool.false_eq_true, setTg, setAll, eqS, eqI, ltI, addI, subI, wEnc0, wEnc1, lk0, lk1, lk2, lk3, cmp_isin, bltD, bLen, lenD, itemsD, Option.map_some, hsb, hs, false_and]
      · simpa [signs, puts, hs] using hT
end
end Ev

namespace Ev
section
variable {o b pl dl : Nat} {w : Wd} {bf : List Int → Nat} {fns : List Fn} {iC iH iA : Nat}
theorem pa_step {n : Nat} (hA : fns[iA]? = some (caF iC)) (hC : PC o b pl dl w bf (callN fns n) iC n) : PA o b pl dl w bf (callN fns (n + 1)) iA (n + 1) := by
  intro ts y k g S ds kp hd hk hg hT hR
  have hdt : deps ts ≤ n := by omega
  obtain ⟨t, r, hdr⟩ : ∃ t r, ts.drop k = t :: r := by
    cases h : ts.drop k with
    | nil => exact absurd (List.drop_eq_nil_iff.mp h) (by omega)
    | cons t r => exact ⟨t, r, rfl⟩
  have hts : ts = ts.take k ++ t :: r := by rw [← hdr, List.take_append_drop]
  have hpl : (ts.take k).length = k := by simp; omega
  have hgd : Goods bf (t :: r) y k := by
    have := goods_drop ts y 0 k hg
    rwa [hdr, Nat.zero_add] at this
  have hal : al w bf g ts y 0 k = al w bf g (t :: r) y k 0 := by rw [al_drop ts y 0 k (by omega), hdr, Nat.zero_add]
  have hsz : sizs ts = sizs (ts.take k) + (siz t + sizs r) := by
    conv => lhs; rw [hts]
    rw [sizs_app]; rfl
  have hmem : t ∈ ts := by rw [hts]; simp
  obtain ⟨r1, r2, r3⟩ := hR
  obtain ⟨S1, c1, c2, c3⟩ := hC t (y ++ [(k : Int)]) S ds kp (Nat.le_trans (deps_mem hmem) hdt) hgd.1 hT ⟨by omega, by omega, by
    have := deps_mem hmem
    simp; omega⟩
  have hsm := tk_small (w := w) (bf := bf) t (y ++ [(k : Int)])
  have hpu := puts_len (tk w bf t (y ++ [(k : Int)])).ps kp
  have hln := sizs_len r
  obtain ⟨S2, σ2, d1, d2, d3, d4⟩ := along_loop hC (ts := ts) (y := y) (g := g) hdt r (ts.take k) t (tk w bf t (y ++ [(k : Int)])).s S1 _ _ 1000 hts (by rw [hpl]; exact hgd.2) c2 ⟨by simp only [signs, List.length_append, List.length_map]; omega, by omega, r3⟩ (by omega)
  rw [hpl] at d1 d2 d3
  have hix : ∀ S, idxD (.tup (encs ts)) (.int (k : Nat)) S = .ok (enc t) S := fun S => by
    show (match (ixD (encs ts).length (k : Nat)).bind fun i => (encs ts)[i]? with | some v => Res.ok v S | none => .bad) = _
    unfold ixD
    rw [if_pos (by omega), if_pos (by rw [encs_eq, List.length_map]; omega)]
    have : (encs ts)[(((k : Nat) : Int)).toNat]? = some (enc t) := by
      rw [encs_eq, show (((k : Nat) : Int)).toNat = k by omega, List.getElem?_map]
      have : ts[k]? = some t := by
        have := List.getElem?_drop (xs := ts) (i := k) (j := 0)
        rw [hdr] at this
        simpa using this.symm
      rw [this]; rfl
    simp only [Option.bind_some, this]
  have hw : ∀ S, binD .add (wayD y) (.tup [.int (k : Nat)]) S = .ok (wayD (y ++ [(k : Int)])) S := fun S => way_add (by omega)
  have hz : ∀ a : D, decide ([a].length ≤ sizeL) = true := fun _ => rfl
  have hz2 : ∀ a b : D, decide ([a, b].length ≤ sizeL) = true := fun _ _ => rfl
  have ho := hT.ho
  refine ⟨S2, ?_, ?_, c3.trans d4⟩
  · rw [call_at hA rfl]
    show (evSs (callN fns n) (caB iC) [some (.obj o), some (.tup (encs ts)), some (wayD y), some (.int (k : Nat)), some (.str [g]), none] S).bind _ = _
    unfold caB
    rw [ss_nx (show evS (callN fns n) _ _ S = .ok (.nx, [some (.obj o), some (.tup (encs ts)), some (wayD y), some (.int (k : Nat)), some (.str [g]), some (.str [(tk w bf t (y ++ [(k : Int)])).s])]) S1 from by simp only [evSs, evS, evE, evA, evT, evTq, evSr, evP, bok, List.getElem?_cons_zero, List.getElem?_cons_succ, List.set_cons_zero, List.set_cons_succ, okV_t, if_true, if_false, Bool.false_eq_true, setTg, setAll, eqS, eqI, ltI, addI, subI, wEnc0, wEnc1, lk0, lk1, lk2, lk3, cmp_isin, bltD, bLen, lenD, itemsD, Option.map_some, hix, hw, ho, hz, c1])]
    rw [ss_nx (show evS (callN fns n) (.while caT (caW iC)) _ S1 = _ from by rw [evS]; exact d1)]
    rw [d2, hal]
    simp only [evSs, evS, evE, evA, evT, evTq, evSr, evP, bok, List.getElem?_cons_zero, List.getElem?_cons_succ, List.set_cons_zero, List.set_cons_succ, okV_t, if_true, if_false, Bool.false_eq_true, setTg, setAll, eqS, eqI, ltI, addI, subI, wEnc0, wEnc1, lk0, lk1, lk2, lk3, cmp_isin, bltD, bLen, lenD, itemsD, Option.map_some, hz2]
    simp only [al]
    by_cases hq : (tk w bf t (y ++ [(k : Int)])).s = g ∧ r ≠ []
    · rw [if_pos hq, if_pos hq, if_pos hq]; rfl
    · rw [if_neg hq, if_neg hq, if_neg hq]; rfl
  · rw [hal]
    simp only [al]
    by_cases hq : (tk w bf t (y ++ [(k : Int)])).s = g ∧ r ≠ []
    · rw [if_pos hq, if_pos hq] at d3
      rw [if_pos hq]
      simp only [signs, List.map_append, puts_app, ← List.append_assoc] at d3 ⊢
      exact d3
    · rw [if_neg hq, if_neg hq] at d3
      rw [if_neg hq]
      simpa [signs, puts] using d3
theorem al_j {g : Nat} : ∀ (ts : List Tr) (y : List Int) (i k : Nat), (al w bf g ts y i k).j ≤ i + ts.length
  | [], y, i, k => by simp [al]
  | t :: r, y, i, 0 => by
    simp only [al]
    split
    · have := al_j (g := g) r y (i + 1) 0
      simp only [List.length_cons]; omega
    · simp
  | t :: r, y, i, k + 1 => by
    have := al_j (g := g) r y (i + 1) k
    simp only [al, List.length_cons]; omega
theorem ph_step {n : Nat} (hH : fns[iH]? = some (chF iA)) (hA : PA o b pl dl w bf (callN fns n) iA n) : PH o b pl dl w bf (callN fns (n + 1)) iH (n + 1) := by
  intro ts y S ds kp hd hg hT hR
  obtain ⟨r1, r2, r3⟩ := hR
  obtain ⟨kb, b1, b2⟩ := hT.hb
  obtain ⟨S1, c1, c2, c3⟩ := hA ts y (bf y) 100 S ds kp (by omega) hg.1 hg.2 hT ⟨by omega, by omega, by omega⟩
  have hsm := al_small (w := w) (bf := bf) (g := 100) ts y 0 (bf y)
  have hpu := puts_len (al w bf 100 ts y 0 (bf y)).ps kp
  have ho := hT.ho
  have ho1 := c2.ho
  have hp1 := c2.hp
  have hget : mGet (.obj b) [wayD y, .int 0] S = .ok (.int (bf y : Nat)) S := by
    show (match S[b]?, keysI (y.map .int) with | some (.dct kvs), some ks => Res.ok ((valD kvs ks).getD (.int 0)) S | _, _ => .bad) = _
    rw [b1, way_keys]
    show Res.ok _ S = _
    rw [b2]
  have hdo : isDO (.obj b) S = true := by simp only [isDO, b1]
  have hln : decide ((puts kp (al w bf 100 ts y 0 (bf y)).ps).length < sizeL) = true := decide_eq_true (by unfold sizeL; omega)
  have step1 : evS (callN fns n) (.unp [3, 4] (.meth 0 iA (.var 0) (.cons (.var 1) (.cons (.var 2) (.cons (.dget (.fld 0 (.var 0) 1) (.var 2) (.cst (D.int (0)))) (.cons (.cst (D.str [100])) (.nil))))))) [some (.obj o), some (.tup (encs ts)), some (wayD y), none, none] S = .ok (.nx, [some (.obj o), some (.tup (encs ts)), some (wayD y), some (.str [(al w bf 100 ts y 0 (bf y)).s]), some (.int ((al w bf 100 ts y 0 (bf y)).j : Nat))]) S1 := by
    simp only [evSs, evS, evE, evA, evT, evTq, evSr, evP, bok, List.getElem?_cons_zero, List.getElem?_cons_succ, List.set_cons_zero, List.set_cons_succ, okV_t, if_true, if_false, Bool.false_eq_true, setTg, setAll, eqS, eqI, ltI, addI, subI, wEnc0, wEnc1, lk0, lk1, lk2, lk3, cmp_isin, bltD, bLen, lenD, itemsD, Option.map_some, ho, hdo, hget, c1]
  by_cases hs : (al w bf 100 ts y 0 (bf y)).s = 103
  · refine ⟨S1.set pl (.dct (putD (puts kp (al w bf 100 ts y 0 (bf y)).ps) (y.map Ky.i) (.int ((al w bf 100 ts y 0 (bf y)).j : Nat)))), ?_, ?_, c3.trans fr_put⟩
    · rw [call_at hH rfl]
      show (evSs (callN fns n) (chB iA) [some (.obj o), some (.tup (encs ts)), some (wayD y), none, none] S).bind _ = _
      unfold chB
      rw [ss_nx step1]
      have hb : ([(al w bf 100 ts y 0 (bf y)).s] == [103]) = true := by rw [hs]; rfl
      have hk := way_keys y
      simp only [evSs, evS, evE, evA, evT, evTq, evSr, evP, bok, List.getElem?_cons_zero, List.getElem?_cons_succ, List.set_cons_zero, List.set_cons_succ, okV_t, if_true, if_false, Bool.false_eq_true, setTg, setAll, eqS, eqI, ltI, addI, subI, wEnc0, wEnc1, lk0, lk1, lk2, lk3, cmp_isin, bltD, bLen, lenD, itemsD, Option.map_some, hb, ho1]
      unfold wayD
      simp only [hk, hp1, hln, okV_t, bok]
      simp only [tk]
      rfl
    · simp only [tk]
      rw [if_pos hs, puts_app]
      exact c2.put _
  · refine ⟨S1, ?_, ?_, c3⟩
    · rw [call_at hH rfl]
      show (evSs (callN fns n) (chB iA) [some (.obj o), some (.tup (encs ts)), some (wayD y), none, none] S).bind _ = _
      unfold chB
      rw [ss_nx step1]
      have hb : ([(al w bf 100 ts y 0 (bf y)).s] == [103]) = false := by simp [hs]
      simp only [evSs, evS, evE, evA, evT, evTq, evSr, evP, bok, List.getElem?_cons_zero, List.getElem?_cons_succ, List.set_cons_zero, List.set_cons_succ, okV_t, if_true, if_false, Bool.false_eq_true, setTg, setAll, eqS, eqI, ltI, addI, subI, wEnc0, wEnc1, lk0, lk1, lk2, lk3, cmp_isin, bltD, bLen, lenD, itemsD, Option.map_some, hb]
      simp only [tk]
      rfl
    · simp only [tk]
      rw [if_neg hs]
      exact c2
theorem pc_step {n : Nat} (hw : w.Ok) (hI : fns[iC]? = some (ctF iC iH iA)) (hC : PC o b pl dl w bf (callN fns n) iC n) (hH : PH o b pl dl w bf (callN fns n) iH n) (hA : PA o b pl dl w bf (callN fns n) iA n) : PC o b pl dl w bf (callN fns (n + 1)) iC (n + 1) := by
  intro t y S ds kp hd hg hT hR
  obtain ⟨r1, r2, r3⟩ := hR
  have ho := hT.ho
  have hz : ∀ a : D, decide ([a].length ≤ sizeL) = true := fun _ => rfl
  have e1 : ([105, 102] == [105, 102]) = true := rfl
  have e2 : ([100, 111] == [105, 102]) = false := rfl
  have e3 : ([100, 111] == [100, 111]) = true := rfl
  have e4 : ([110, 111, 116] == [105, 102]) = false := rfl
  have e5 : ([110, 111, 116] == [100, 111]) = false := rfl
  have e6 : ([110, 111, 116] == [110, 111, 116]) = true := rfl
  have e7 : ([114, 111, 119] == [105, 102]) = false := rfl
  have e8 : ([114, 111, 119] == [100, 111]) = false := rfl
  have e9 : ([114, 111, 119] == [110, 111, 116]) = false := rfl
  have e10 : ([114, 111, 119] == [104, 111, 108, 100]) = false := rfl
  have e11 : ([114, 111, 119] == [112, 105, 99, 107]) = false := rfl
  have e12 : ([112, 105, 99, 107] == [105, 102]) = false := rfl
  have e13 : ([112, 105, 99, 107] == [100, 111]) = false := rfl
  have e14 : ([112, 105, 99, 107] == [110, 111, 116]) = false := rfl
  have e15 : ([112, 105, 99, 107] == [104, 111, 108, 100]) = false := rfl
  have e16 : ([112, 105, 99, 107] == [112, 105, 99, 107]) = true := rfl
  have e17 : ([104, 111, 108, 100] == [105, 102]) = false := rfl
  have e18 : ([104, 111, 108, 100] == [100, 111]) = false := rfl
  have e19 : ([104, 111, 108, 100] == [110, 111, 116]) = false := rfl
  have e20 : ([104, 111, 108, 100] == [104, 111, 108, 100]) = true := rfl
  have ix0 : ∀ (a b : D) S, idxD (.tup [a, b]) (.int 0) S = .ok a S := fun _ _ _ => rfl
  cases t with
  | iff c =>
    refine ⟨S, ?_, by simpa [tk, signs, puts] using hT, Fr.refl⟩
    rw [call_at hI rfl]
    show (evSs (callN fns n) (ctB iC iH iA) [some (.obj o), some (.tup [.str [105, 102], .str [c]]), some (wayD y), none, none] S).bind _ = _
    unfold ctB
    simp only [evSs, evS, evE, evA, evT, evTq, evSr, evP, bok, List.getElem?_cons_zero, List.getElem?_cons_succ, List.set_cons_zero, List.set_cons_succ, okV_t, if_true, if_false, Bool.false_eq_true, setTg, setAll, eqS, eqI, ltI, addI, subI, wEnc0, wEnc1, lk0, lk1, lk2, lk3, cmp_isin, bltD, bLen, lenD, itemsD, Option.map_some, e1, ho]
    simp only [tk]
    by_cases h : c ∈ w.ss
    · rw [List.contains_iff_mem.mpr h, if_pos h]; rfl
    · rw [show w.ss.contains c = false by simpa using h, if_neg h]; rfl
  | act c =>
    have hdl := hT.hd
    have hT' := hT.app (ds ++ [.str [c]])
    have ho' := hT'.ho
    refine ⟨S.set dl (.lst (ds ++ [.str [c]])), ?_, by simpa [tk, signs, puts] using hT', fr_app⟩
    rw [call_at hI rfl]
    show (evSs (callN fns n) (ctB iC iH iA) [some (.obj o), some (.tup [.str [100, 111], .str [c]]), some (wayD y), none, none] S).bind _ = _
    unfold ctB
    have hlen : decide (ds.length < sizeL) = true := decide_eq_true (by simp only [siz] at r1; unfold sizeL; omega)
    simp only [evSs, evS, evE, evA, evT, evTq, evSr, evP, bok, List.getElem?_cons_zero, List.getElem?_cons_succ, List.set_cons_zero, List.set_cons_succ, okV_t, if_true, if_false, Bool.false_eq_true, setTg, setAll, eqS, eqI, ltI, addI, subI, wEnc0, wEnc1, lk0, lk1, lk2, lk3, cmp_isin, bltD, bLen, lenD, itemsD, Option.map_some, e2, e3, ho, bmPre, isLO, hdl, bmD, mAppend, hlen, ho']
    rcases hg with e | e | e <;> subst e <;> rfl
  | inv t =>
    simp only [dep] at hd r3
    simp only [siz] at r1 r2
    obtain ⟨S1, c1, c2, c3⟩ := hC t (y ++ [0]) S ds kp (by omega) hg hT ⟨by omega, by omega, by simp; omega⟩
    refine ⟨S1, ?_, by simpa only [tk] using c2, c3⟩
    rw [call_at hI rfl]
    show (evSs (callN fns n) (ctB iC iH iA) [some (.obj o), some (.tup [.str [110, 111, 116], enc t]), some (wayD y), none, none] S).bind _ = _
    unfold ctB
    have hw' : ∀ S, binD .add (wayD y) (.tup [.int 0]) S = .ok (wayD (y ++ [0])) S := fun S => way_add (by omega)
    simp only [evSs, evS, evE, evA, evT, evTq, evSr, evP, bok, List.getElem?_cons_zero, List.getElem?_cons_succ, List.set_cons_zero, List.set_cons_succ, okV_t, if_true, if_false, Bool.false_eq_true, setTg, setAll, eqS, eqI, ltI, addI, subI, wEnc0, wEnc1, lk0, lk1, lk2, lk3, cmp_isin, bltD, bLen, lenD, itemsD, Option.map_some, e4, e5, e6, ho, hz, hw', c1]
    simp only [tk]
    rcases tk_sign hw t (y ++ [0]) hg with e | e | e <;> rw [e] <;> rfl
  | row ts =>
    simp only [dep] at hd r3
    simp only [siz] at r1 r2
    obtain ⟨S1, c1, c2, c3⟩ := hA ts y 0 100 S ds kp (by omega) (by have := hg.1; cases ts <;> simp_all) hg.2 hT ⟨by omega, by omega, by omega⟩
    refine ⟨S1, ?_, by simpa only [tk] using c2, c3⟩
    rw [call_at hI rfl]
    show (evSs (callN fns n) (ctB iC iH iA) [some (.obj o), some (.tup [.str [114, 111, 119], .tup (encs ts)]), some (wayD y), none, none] S).bind _ = _
    unfold ctB
    have c1' : callN fns n iA [.obj o, .tup (encs ts), wayD y, .int 0, .str [100]] S = _ := c1
    simp only [evSs, evS, evE, evA, evT, evTq, evSr, evP, bok, List.getElem?_cons_zero, List.getElem?_cons_succ, List.set_cons_zero, List.set_cons_succ, okV_t, if_true, if_false, Bool.false_eq_true, setTg, setAll, eqS, eqI, ltI, addI, subI, wEnc0, wEnc1, lk0, lk1, lk2, lk3, cmp_isin, bltD, bLen, lenD, itemsD, Option.map_some, e7, e8, e9, e10, e11, ho, c1', ix0]
    simp only [tk]
    rfl
  | pick ts =>
    simp only [dep] at hd r3
    simp only [siz] at r1 r2
    obtain ⟨S1, c1, c2, c3⟩ := hA ts y 0 102 S ds kp (by omega) (by have := hg.1; cases ts <;> simp_all) hg.2 hT ⟨by omega, by omega, by omega⟩
    refine ⟨S1, ?_, by simpa only [tk] using c2, c3⟩
    rw [call_at hI rfl]
    show (evSs (callN fns n) (ctB iC iH iA) [some (.obj o), some (.tup [.str [112, 105, 99, 107], .tup (encs ts)]), some (wayD y), none, none] S).bind _ = _
    unfold ctB
    have c1' : callN fns n iA [.obj o, .tup (encs ts), wayD y, .int 0, .str [102]] S = _ := c1
    simp only [evSs, evS, evE, evA, evT, evTq, evSr, evP, bok, List.getElem?_cons_zero, List.getElem?_cons_succ, List.set_cons_zero, List.set_cons_succ, okV_t, if_true, if_false, Bool.false_eq_true, setTg, setAll, eqS, eqI, ltI, addI, subI, wEnc0, wEnc1, lk0, lk1, lk2, lk3, cmp_isin, bltD, bLen, lenD, itemsD, Option.map_some, e12, e13, e14, e15, e16, ho, c1', ix0]
    simp only [tk]
    rfl
  | hold ts =>
    simp only [dep] at hd r3
    simp only [siz] at r1 r2
    obtain ⟨S1, c1, c2, c3⟩ := hH ts y S ds kp (by omega) hg hT ⟨by omega, by omega, by omega⟩
    refine ⟨S1, ?_, c2, c3⟩
    rw [call_at hI rfl]
    show (evSs (callN fns n) (ctB iC iH iA) [some (.obj o), some (.tup [.str [104, 111, 108, 100], .tup (encs ts)]), some (wayD y), none, none] S).bind _ = _
    unfold ctB
    simp only [evSs, evS, evE, evA, evT, evTq, evSr, evP, bok, List.getElem?_cons_zero, List.getElem?_cons_succ, List.set_cons_zero, List.set_cons_succ, okV_t, if_true, if_false, Bool.false_eq_true, setTg, setAll, eqS, eqI, ltI, addI, subI, wEnc0, wEnc1, lk0, lk1, lk2, lk3, cmp_isin, bltD, bLen, lenD, itemsD, Option.map_some, e17, e18, e19, e20, ho, c1]
    rfl
theorem tick_all (hw : w.Ok) (hI : fns[iC]? = some (ctF iC iH iA)) (hH : fns[iH]? = some (chF iA)) (hA : fns[iA]? = some (caF iC)) : ∀ n, PC o b pl dl w bf (callN fns n) iC n ∧ PH o b pl dl w bf (callN fns n) iH n ∧ PA o b pl dl w bf (callN fns n) iA n
  | 0 => by
    refine ⟨?_, ?_, ?_⟩
    · intro t y S ds kp hd
      cases t <;> simp [dep] at hd
    · intro ts y S ds kp hd; omega
    · intro ts y k g S ds kp hd; omega
  | n + 1 => by
    obtain ⟨a, b, c⟩ := tick_all hw hI hH hA n
    exact ⟨pc_step hw hI a b c, ph_step hH c, pa_step hA a⟩
end
end Ev

namespace Ev
/-! ### the ticker -/
def tiF : Fn := ⟨3, 3, false, .cons (.fld 0 (.var 0) 0 (.var 1))
    (.cons (.fld 0 (.var 0) 1 (.var 2))
    (.cons (.fld 0 (.var 0) 2 (.newd))
    (.cons (.fld 0 (.var 0) 3 (.newl))
    (.nil))))⟩
def niF : Fn := ⟨2, 2, false, .cons (.fld 1 (.var 0) 4 (.var 1))
    (.cons (.fld 1 (.var 0) 2 (.newd))
    (.cons (.fld 1 (.var 0) 5 (.newl))
    (.cons (.fld 1 (.var 0) 6 (.newl))
    (.nil))))⟩
def nkB (iT iC iP : Nat) : Ss := .cons (.set 2 (.make 0 iT (.cons (.var 1) (.cons (.fld 1 (.var 0) 2) (.nil)))))
    (.cons (.set 3 (.meth 0 iC (.var 2) (.cons (.fld 1 (.var 0) 4) (.cons (.tup (.nil)) (.nil)))))
    (.cons (.set 4 (.bm .join (.cst (D.str [])) (.cons (.fld 0 (.var 2) 3) (.nil))))
    (.cons (.ex (.meth 1 iP (.var 0) (.nil)))
    (.cons (.fld 1 (.var 0) 2 (.fld 0 (.var 2) 2))
    (.cons (.ex (.bm .append (.fld 1 (.var 0) 5) (.cons (.tup (.cons (.var 1) (.cons (.var 4) (.cons (.var 3) (.nil))))) (.nil))))
    (.cons (.ret (.tup (.cons (.var 4) (.cons (.var 3) (.nil)))))
    (.nil)))))))
def nkF (iT iC iP : Nat) : Fn := ⟨2, 5, false, nkB iT iC iP⟩
def toF : Fn := ⟨1, 1, false, .cons (.ret (.blt .tuple (.cons (.fld 1 (.var 0) 5) (.nil))))
    (.nil)⟩
def kpF : Fn := ⟨1, 1, false, .cons (.ex (.bm .append (.fld 1 (.var 0) 6) (.cons (.tup (.cons (.fld 1 (.var 0) 2) (.cons (.blt .len (.cons (.fld 1 (.var 0) 5) (.nil))) (.nil)))) (.nil))))
    (.nil)⟩
theorem mk0 (a b c d : D) : List.lookup 4 [((4 : Nat), a), (2, b), (5, c), (6, d)] = some a := rfl
theorem mk1 (a b c d : D) : List.lookup 2 [((4 : Nat), a), (2, b), (5, c), (6, d)] = some b := rfl
theorem mk2 (a b c d : D) : List.lookup 5 [((4 : Nat), a), (2, b), (5, c), (6, d)] = some c := rfl
theorem mk3 (a b c d : D) : List.lookup 6 [((4 : Nat), a), (2, b), (5, c), (6, d)] = some d := rfl
theorem lg0 {α : Type} (S : List α) (a : α) (n : Nat) (h : n = S.length) : (S ++ [a])[n]? = some a := by subst h; simp
theorem lg0' {α : Type} (S : List α) (a b : α) (n : Nat) (h : n = S.length) : (S ++ [a, b])[n]? = some a := by subst h; simp
theorem lg1' {α : Type} (S : List α) (a b : α) (n : Nat) (h : n = S.length + 1) : (S ++ [a, b])[n]? = some b := by subst h; simp
theorem tinit {fns : List Fn} {iT k : Nat} (hI : fns[iT]? = some tiF) (S : Sto) (x y : D) : callN fns (k + 1) iT [.obj S.length, x, y] (S ++ [.ins 0 []]) = .ok .non (S ++ [.ins 0 [(0, x), (1, y), (2, .obj (S.length + 1)), (3, .obj (S.length + 2))], .dct [], .lst []]) := by
  rw [call_at hI rfl]
  simp only [tiF, List.map_cons, List.map_nil, List.cons_append, List.nil_append, Nat.sub_self, List.replicate_zero]
  simp [evSs, evS, evE, bok, okV, putFD, endD, List.set_append_right]
theorem ninit {fns : List Fn} {iN k : Nat} (hI : fns[iN]? = some niF) (S : Sto) (x : D) : callN fns (k + 1) iN [.obj S.length, x] (S ++ [.ins 1 []]) = .ok .non (S ++ [.ins 1 [(4, x), (2, .obj (S.length + 1)), (5, .obj (S.length + 2)), (6, .obj (S.length + 3))], .dct [], .lst [], .lst []]) := by
  rw [call_at hI rfl]
  simp only [niF, List.map_cons, List.map_nil, List.cons_append, List.nil_append, Nat.sub_self, List.replicate_zero]
  simp [evSs, evS, evE, bok, okV, putFD, endD, List.set_append_right]
theorem strsD_signs : ∀ ds : List Nat, strsD (signs ds) = some (ds.map fun c => [c])
  | [] => rfl
  | c :: ds => by
    have := strsD_signs ds
    unfold signs at this ⊢
    simp only [List.map_cons, strsD, this, Option.map_some]
theorem join_signs : ∀ ds : List Nat, joinS [] (ds.map fun c => [c]) = ds
  | [] => rfl
  | [c] => rfl
  | c :: d :: ds => by
    have := join_signs (d :: ds)
    simp only [List.map_cons] at this ⊢
    simp only [joinS, this, List.append_nil]
    rfl
theorem len_signs : ∀ ds : List Nat, ((ds.map fun c => [c]).map List.length).sum = ds.length
  | [] => rfl
  | c :: ds => by
    have := len_signs ds
    simp only [List.map_cons, List.sum_cons, this, List.length_cons, List.length_nil]; omega
theorem mjoin_signs {ds : List Nat} {S : Sto} {d : D} (h : itemsD d S = some (signs ds)) (hl : ds.length ≤ 10000) : mJoin (.str []) [d] S = .ok (.str ds) S := by
  show (match (itemsD d S).bind strsD with | some ys => okV (decide ((ys.map List.length).sum + ys.length * ([] : List Nat).length ≤ 16777216)) (D.str (joinS [] ys)) S | none => .bad) = _
  rw [h, Option.bind_some, strsD_signs]
  show okV (decide _) _ _ = _
  rw [len_signs, join_signs, decide_eq_true (by simp; omega)]
  rfl
/-- a ticker in the store -/
structure TK (q b tl pa : Nat) (t : D) (S : Sto) (kb : List (List Ky × D)) (told past : List D) : Prop where
  hq : S[q]? = some (.ins 1 [(4, t), (2, .obj b), (5, .obj tl), (6, .obj pa)])
  hb : S[b]? = some (.dct kb)
  ht : S[tl]? = some (.lst told)
  hp : S[pa]? = some (.lst past)
  ne : tl ≠ pa
/-- all but these is as it was -/
def Fq (q tl pa : Nat) (S S' : Sto) : Prop := S.length ≤ S'.length ∧ ∀ i, i < S.length → i ≠ q → i ≠ tl → i ≠ pa → S'[i]? = S[i]?
theorem keep_ok {fns : List Fn} {iP k q b tl pa : Nat} {t : D} {S : Sto} {kb : List (List Ky × D)} {told past : List D} (hI : fns[iP]? = some kpF) (h : TK q b tl pa t S kb told past) (hl : past.length < 1000000) :
    callN fns (k + 1) iP [.obj q] S = .ok .non (S.set pa (.lst (past ++ [.tup [.obj b, .int (told.length : Nat)]]))) := by
  rw [call_at hI rfl]
  have h1 := h.hq
  have h2 := h.ht
  have h3 := h.hp
  have hz2 : ∀ a b : D, decide ([a, b].length ≤ sizeL) = true := fun _ _ => rfl
  have hln : decide (past.length < sizeL) = true := decide_eq_true (by unfold sizeL; omega)
  simp only [kpF, List.map_cons, List.map_nil, List.cons_append, List.nil_append, Nat.sub_self, List.replicate_zero, evSs, evS, evE, evA, evT, evTq, evSr, evP, bok, List.getElem?_cons_zero, List.getElem?_cons_succ, List.set_cons_zero, List.set_cons_succ, okV_t, if_true, if_false, Bool.false_eq_true, setTg, setAll, eqS, eqI, ltI, addI, subI, wEnc0, wEnc1, lk0, lk1, lk2, lk3, cmp_isin, bltD, bLen, lenD, itemsD, Option.map_some, h1, h2, h3, mk1, mk2, mk3, bmPre, isLO, bmD, mAppend, hz2, hln]
  rfl
section
variable {fns : List Fn} {iC iH iA iT iP iK : Nat}
theorem tick_ok {w : Wd} {bf : List Int → Nat} {n q b tl pa : Nat} {t : Tr} {S : Sto} {kb : List (List Ky × D)} {told past : List D} (hw : w.Ok)
    (hC : fns[iC]? = some (ctF iC iH iA)) (hH : fns[iH]? = some (chF iA)) (hA : fns[iA]? = some (caF iC)) (hT : fns[iT]? = some tiF) (hP : fns[iP]? = some kpF) (hK : fns[iK]? = some (nkF iT iC iP))
    (h : TK q b tl pa (enc t) S kb told past) (hbf : ∀ y : List Int, (valD kb (y.map Ky.i)).getD (.int 0) = .int (bf y)) (hg : Good bf t []) (hd : dep t ≤ n + 1) (hd2 : dep t ≤ 900) (hs : siz t ≤ 900) (l1 : told.length < 1000000) (l2 : past.length < 1000000) :
    ∃ S' pl, callN fns (n + 2) iK [.obj q, w.enc] S = .ok (.tup [.str (tk w bf t []).ds, .str [(tk w bf t []).s]]) S' ∧ TK q pl tl pa (enc t) S' (puts [] (tk w bf t []).ps) (told ++ [.tup [w.enc, .str (tk w bf t []).ds, .str [(tk w bf t []).s]]]) (past ++ [.tup [.obj b, .int (told.length : Nat)]]) ∧ Fq q tl pa S S' ∧ S.length ≤ pl := by
  have h1 := h.hq
  have lq := lt_of_at h.hq
  have lb := lt_of_at h.hb
  have lt := lt_of_at h.ht
  have lp := lt_of_at h.hp
  -- the new tick
  let S1 : Sto := S ++ [.ins 0 [(0, w.enc), (1, .obj b), (2, .obj (S.length + 1)), (3, .obj (S.length + 2))], .dct [], .lst []]
  have g0 : S1[S.length]? = some (.ins 0 [(0, w.enc), (1, .obj b), (2, .obj (S.length + 1)), (3, .obj (S.length + 2))]) := by simp [S1]
  have g1 : S1[S.length + 1]? = some (.dct []) := by simp [S1]
  have g2 : S1[S.length + 2]? = some (.lst []) := by simp [S1]
  have gl : ∀ i, i < S.length → S1[i]? = S[i]? := fun i hi => List.getElem?_append_left hi
  have hTA : TA S.length b (S.length + 1) (S.length + 2) w bf S1 [] [] := ⟨g0, ⟨kb, by rw [gl _ lb]; exact h.hb, hbf⟩, g1, g2, by omega⟩
  obtain ⟨S2, c1, c2, c3⟩ := (tick_all (o := S.length) (b := b) (pl := S.length + 1) (dl := S.length + 2) (bf := bf) hw hC hH hA (n + 1)).1 t [] S1 [] [] hd hg hTA ⟨by simpa using hs, by simpa using hs, by simpa using hd2⟩
  have hsm := tk_small (w := w) (bf := bf) t []
  rw [List.nil_append] at c2
  have k1 : ∀ i, i < S.length → S2[i]? = S[i]? := fun i hi => (c3.2 i (by omega) (by omega)).trans (gl i hi)
  have hK2 : TK q b tl pa (enc t) S2 kb told past := ⟨by rw [k1 _ lq]; exact h.hq, by rw [k1 _ lb]; exact h.hb, by rw [k1 _ lt]; exact h.ht, by rw [k1 _ lp]; exact h.hp, h.ne⟩
  have m1 := mjoin_signs (d := .obj (S.length + 2)) (S := S2) (ds := (tk w bf t []).ds) (by show (match S2[S.length + 2]? with | some (.lst xs) => some xs | _ => none) = _; rw [c2.hd]) (by omega)
  have q1 := keep_ok (k := n) hP hK2 l2
  have hln : S2.length = S.length + 3 := by rw [c3.1]; simp [S1]
  -- behind keep_past
  let S3 : Sto := S2.set pa (.lst (past ++ [.tup [.obj b, .int (told.length : Nat)]]))
  have n1 : q ≠ pa := ne_at h.hq h.hp nofun
  have n2 : q ≠ tl := ne_at h.hq h.ht nofun
  have u1 : S3[q]? = some (.ins 1 [(4, enc t), (2, .obj b), (5, .obj tl), (6, .obj pa)]) := by rw [show S3 = S2.set pa _ from rfl, set_off n1]; exact hK2.hq
  have u2 : S3[S.length]? = some (.ins 0 [(0, w.enc), (1, .obj b), (2, .obj (S.length + 1)), (3, .obj (S.length + 2))]) := by rw [show S3 = S2.set pa _ from rfl, set_off (by omega)]; exact c2.ho
  let S4 : Sto := S3.set q (.ins 1 [(4, enc t), (2, .obj (S.length + 1)), (5, .obj tl), (6, .obj pa)])
  have v1 : S4[q]? = some (.ins 1 [(4, enc t), (2, .obj (S.length + 1)), (5, .obj tl), (6, .obj pa)]) := set_at u1
  have v2 : S4[tl]? = some (.lst told) := by rw [show S4 = S3.set q _ from rfl, set_off (Ne.symm n2), show S3 = S2.set pa _ from rfl, set_off h.ne]; exact hK2.ht
  let S5 : Sto := S4.set tl (.lst (told ++ [.tup [w.enc, .str (tk w bf t []).ds, .str [(tk w bf t []).s]]]))
  refine ⟨S5, S.length + 1, ?_, ⟨?_, ?_, ?_, ?_, h.ne⟩, ⟨?_, ?_⟩, by omega⟩
  · rw [call_at hK rfl]
    show (evSs (callN fns (n + 1)) (nkB iT iC iP) [some (.obj q), some w.enc, none, none, none] S).bind _ = _
    unfold nkB
    have t1 := tinit (k := n) hT S w.enc (.obj b)
    have z0 : decide (([] : List D).length ≤ sizeL) = true := rfl
    have z2 : ∀ a b : D, decide ([a, b].length ≤ sizeL) = true := fun _ _ => rfl
    have z3 : ∀ a b c : D, decide ([a, b, c].length ≤ sizeL) = true := fun _ _ _ => rfl
    have z4 : isNon .non = true := rfl
    have a1 : evS (callN fns (n + 1)) (.set 2 (.make 0 iT (.cons (.var 1) (.cons (.fld 1 (.var 0) 2) (.nil))))) [some (.obj q), some w.enc, none, none, none] S = .ok (.nx, [some (.obj q), some w.enc, some (.obj S.length), none, none]) S1 := by
      simp only [evSs, evS, evE, evA, evT, evTq, evSr, evP, bok, List.getElem?_cons_zero, List.getElem?_cons_succ, List.set_cons_zero, List.set_cons_succ, okV_t, if_true, if_false, Bool.false_eq_true, setTg, setAll, eqS, eqI, ltI, addI, subI, wEnc0, wEnc1, lk0, lk1, lk2, lk3, cmp_isin, bltD, bLen, lenD, itemsD, Option.map_some, h1, mk1, t1, z4]
      rfl
    have e1 : S1[q]? = some (.ins 1 [(4, enc t), (2, .obj b), (5, .obj tl), (6, .obj pa)]) := by rw [gl _ lq]; exact h1
    have c1' : callN fns (n + 1) iC [.obj S.length, enc t, .tup []] S1 = .ok (.str [(tk w bf t []).s]) S2 := c1
    have a2 : evS (callN fns (n + 1)) (.set 3 (.meth 0 iC (.var 2) (.cons (.fld 1 (.var 0) 4) (.cons (.tup (.nil)) (.nil))))) [some (.obj q), some w.enc, some (.obj S.length), none, none] S1 = .ok (.nx, [some (.obj q), some w.enc, some (.obj S.length), some (.str [(tk w bf t []).s]), none]) S2 := by
      simp only [evSs, evS, evE, evA, evT, evTq, evSr, evP, bok, List.getElem?_cons_zero, List.getElem?_cons_succ, List.set_cons_zero, List.set_cons_succ, okV_t, if_true, if_false, Bool.false_eq_true, setTg, setAll, eqS, eqI, ltI, addI, subI, wEnc0, wEnc1, lk0, lk1, lk2, lk3, cmp_isin, bltD, bLen, lenD, itemsD, Option.map_some, g0, e1, mk0, z0, c1']
    have c4 := c2.ho
    have a3 : evS (callN fns (n + 1)) (.set 4 (.bm .join (.cst (D.str [])) (.cons (.fld 0 (.var 2) 3) (.nil)))) [some (.obj q), some w.enc, some (.obj S.length), some (.str [(tk w bf t []).s]), none] S2 = .ok (.nx, [some (.obj q), some w.enc, some (.obj S.length), some (.str [(tk w bf t []).s]), some (.str (tk w bf t []).ds)]) S2 := by
      simp only [evSs, evS, evE, evA, evT, evTq, evSr, evP, bok, List.getElem?_cons_zero, List.getElem?_cons_succ, List.set_cons_zero, List.set_cons_succ, okV_t, if_true, if_false, Bool.false_eq_true, setTg, setAll, eqS, eqI, ltI, addI, subI, wEnc0, wEnc1, lk0, lk1, lk2, lk3, cmp_isin, bltD, bLen, lenD, itemsD, Option.map_some, bmPre, isSD, c4, bmD, m1]
    have c5 := hK2.hq
    have a4 : evS (callN fns (n + 1)) (.ex (.meth 1 iP (.var 0) (.nil))) [some (.obj q), some w.enc, some (.obj S.length), some (.str [(tk w bf t []).s]), some (.str (tk w bf t []).ds)] S2 = .ok (.nx, [some (.obj q), some w.enc, some (.obj S.length), some (.str [(tk w bf t []).s]), some (.str (tk w bf t []).ds)]) S3 := by
      simp only [evSs, evS, evE, evA, evT, evTq, evSr, evP, bok, List.getElem?_cons_zero, List.getElem?_cons_succ, List.set_cons_zero, List.set_cons_succ, okV_t, if_true, if_false, Bool.false_eq_true, setTg, setAll, eqS, eqI, ltI, addI, subI, wEnc0, wEnc1, lk0, lk1, lk2, lk3, cmp_isin, bltD, bLen, lenD, itemsD, Option.map_some, c5, q1]
      rfl
    have z5 : ∀ a b c d : Nat × D, decide ([a, b, c, d].length < 1000) = true := fun _ _ _ _ => rfl
    have a5 : evS (callN fns (n + 1)) (.fld 1 (.var 0) 2 (.fld 0 (.var 2) 2)) [some (.obj q), some w.enc, some (.obj S.length), some (.str [(tk w bf t []).s]), some (.str (tk w bf t []).ds)] S3 = .ok (.nx, [some (.obj q), some w.enc, some (.obj S.length), some (.str [(tk w bf t []).s]), some (.str (tk w bf t []).ds)]) S4 := by
      simp only [evSs, evS, evE, evA, evT, evTq, evSr, evP, bok, List.getElem?_cons_zero, List.getElem?_cons_succ, List.set_cons_zero, List.set_cons_succ, okV_t, if_true, if_false, Bool.false_eq_true, setTg, setAll, eqS, eqI, ltI, addI, subI, wEnc0, wEnc1, lk0, lk1, lk2, lk3, cmp_isin, bltD, bLen, lenD, itemsD, Option.map_some, u2, u1, z5]
      rfl
    have z6 : decide (told.length < sizeL) = true := decide_eq_true (by unfold sizeL; omega)
    have a6 : evS (callN fns (n + 1)) (.ex (.bm .append (.fld 1 (.var 0) 5) (.cons (.tup (.cons (.var 1) (.cons (.var 4) (.cons (.var 3) (.nil))))) (.nil)))) [some (.obj q), some w.enc, some (.obj S.length), some (.str [(tk w bf t []).s]), some (.str (tk w bf t []).ds)] S4 = .ok (.nx, [some (.obj q), some w.enc, some (.obj S.length), some (.str [(tk w bf t []).s]), some (.str (tk w bf t []).ds)]) S5 := by
      simp only [evSs, evS, evE, evA, evT, evTq, evSr, evP, bok, List.getElem?_cons_zero, List.getElem?_cons_succ, List.set_cons_zero, List.set_cons_succ, okV_t, if_true, if_false, Bool.false_eq_true, setTg, setAll, eqS, eqI, ltI, addI, subI, wEnc0, wEnc1, lk0, lk1, lk2, lk3, cmp_isin, bltD, bLen, lenD, itemsD, Option.map_some, v1, mk2, z3, bmPre, isLO, v2, bmD, mAppend, z6]
      rfl
    rw [ss_nx a1, ss_nx a2, ss_nx a3, ss_nx a4, ss_nx a5, ss_nx a6]
    simp only [evSs, evS, evE, evA, evT, evTq, evSr, evP, bok, List.getElem?_cons_zero, List.getElem?_cons_succ, List.set_cons_zero, List.set_cons_succ, okV_t, if_true, if_false, Bool.false_eq_true, setTg, setAll, eqS, eqI, ltI, addI, subI, wEnc0, wEnc1, lk0, lk1, lk2, lk3, cmp_isin, bltD, bLen, lenD, itemsD, Option.map_some, z2]
    rfl
  · rw [show S5 = S4.set tl _ from rfl, set_off n2]; exact v1
  · rw [show S5 = S4.set tl _ from rfl, set_off (by omega), show S4 = S3.set q _ from rfl, set_off (by omega), show S3 = S2.set pa _ from rfl, set_off (by omega)]; exact c2.hp
  · exact set_at v2
  · rw [show S5 = S4.set tl _ from rfl, set_off h.ne.symm, show S4 = S3.set q _ from rfl, set_off n1.symm]; exact set_at hK2.hp
  · simp [S5, S4, S3, hln]
  · intro i hi i1 i2 i3
    rw [show S5 = S4.set tl _ from rfl, set_off i2, show S4 = S3.set q _ from rfl, set_off i1, show S3 = S2.set pa _ from rfl, set_off i3]
    exact k1 i hi
end
end Ev

namespace Ev
/-! ### running a tree -/
def bfOf (kb : List (List Ky × D)) (y : List Int) : Nat := match valD kb (y.map Ky.i) with | some (.int j) => j.toNat | _ => 0
def DOk (kb : List (List Ky × D)) : Prop := ∀ kv ∈ kb, ∃ j : Nat, kv.2 = .int (j : Nat)
theorem dok_nil : DOk [] := fun _ h => nomatch h
theorem dok_bf {kb : List (List Ky × D)} (h : DOk kb) (y : List Int) : (valD kb (y.map Ky.i)).getD (.int 0) = .int (bfOf kb y) := by
  unfold bfOf valD
  cases e : kb.find? fun kv => decide (kv.1 = y.map Ky.i) with
  | none => rfl
  | some kv =>
    obtain ⟨j, hj⟩ := h kv (List.mem_of_find?_eq_some e)
    simp [hj]
theorem dok_put {kb : List (List Ky × D)} (h : DOk kb) (k : List Ky) (j : Nat) : DOk (putD kb k (.int (j : Nat))) := by
  unfold putD
  split
  · intro kv hk
    obtain ⟨kw, h1, h2⟩ := List.mem_map.mp hk
    subst h2
    by_cases e : kw.1 = k
    · exact ⟨j, by simp [e]⟩
    · simpa [e] using h kw h1
  · intro kv hk
    rcases List.mem_append.mp hk with hk | hk
    · exact h kv hk
    · rw [List.mem_singleton.mp hk]; exact ⟨j, rfl⟩
theorem dok_puts : ∀ (ps : List (List Int × Nat)) {kb : List (List Ky × D)}, DOk kb → DOk (puts kb ps)
  | [], kb, h => h
  | p :: ps, kb, h => dok_puts ps (dok_put h _ _)
/-- what is told of a row of worlds -/
def runT (t : Tr) : List Wd → List (List Ky × D) → List (Wd × List Nat × Nat)
  | [], _ => []
  | w :: ws, kb => (w, (tk w (bfOf kb) t []).ds, (tk w (bfOf kb) t []).s) :: runT t ws (puts [] (tk w (bfOf kb) t []).ps)
def toldD (x : Wd × List Nat × Nat) : D := .tup [x.1.enc, .str x.2.1, .str [x.2.2]]
def GoodRun (t : Tr) : List Wd → List (List Ky × D) → Prop
  | [], _ => True
  | w :: ws, kb => Good (bfOf kb) t [] ∧ GoodRun t ws (puts [] (tk w (bfOf kb) t []).ps)
/-- nothing that was there has changed -/
def Pre (S S' : Sto) : Prop := S.length ≤ S'.length ∧ ∀ i, i < S.length → S'[i]? = S[i]?
theorem Pre.refl {S : Sto} : Pre S S := ⟨Nat.le_refl _, fun _ _ => rfl⟩
theorem Pre.trans {S1 S2 S3 : Sto} (h : Pre S1 S2) (g : Pre S2 S3) : Pre S1 S3 := ⟨Nat.le_trans h.1 g.1, fun i hi => (g.2 i (Nat.lt_of_lt_of_le hi h.1)).trans (h.2 i hi)⟩
theorem T.pre {t n : Nat} {S S' : Sto} (h : T t S n) (g : Pre S S') : T t S' n := by
  obtain ⟨xs, a, b⟩ := h
  exact ⟨xs, by rw [g.2 _ (lt_of_at a)]; exact a, b⟩
theorem Fq.old {q tl pa m : Nat} {S0 S S' : Sto} (h : Fq q tl pa S S') (g : Pre S0 S) (hm : m = S0.length) (h1 : m ≤ q) (h2 : m ≤ tl) (h3 : m ≤ pa) : Pre S0 S' :=
  ⟨Nat.le_trans g.1 h.1, fun i hi => (h.2 i (Nat.lt_of_lt_of_le hi g.1) (by omega) (by omega) (by omega)).trans (g.2 i hi)⟩
def rnB (iN iK iO : Nat) : Ss := .cons (.set 2 (.make 1 iN (.cons (.var 0) (.nil))))
    (.cons (.for (.seq (.var 1)) (.name 3) (.cons (.ex (.meth 1 iK (.var 2) (.cons (.var 3) (.nil))))
    (.nil)))
    (.cons (.ret (.meth 1 iO (.var 2) (.nil)))
    (.nil)))
def rnF (iN iK iO : Nat) : Fn := ⟨2, 4, false, rnB iN iK iO⟩
/-- the places of the parts of a ticking in a program -/
structure Ix (fns : List Fn) (iC iH iA iT iP iK iN iO : Nat) : Prop where
  hC : fns[iC]? = some (ctF iC iH iA)
  hH : fns[iH]? = some (chF iA)
  hA : fns[iA]? = some (caF iC)
  hT : fns[iT]? = some tiF
  hP : fns[iP]? = some kpF
  hK : fns[iK]? = some (nkF iT iC iP)
  hN : fns[iN]? = some niF
  hO : fns[iO]? = some toF
section
variable {fns : List Fn} {iC iH iA iT iP iK iN iO iR : Nat}
theorem told_ok {k q b tl pa : Nat} {t : D} {S : Sto} {kb : List (List Ky × D)} {told past : List D} (hO : fns[iO]? = some toF) (h : TK q b tl pa t S kb told past) : callN fns (k + 1) iO [.obj q] S = .ok (.tup told) S := by
  rw [call_at hO rfl]
  have h1 := h.hq
  have h2 := h.ht
  simp only [toF, List.map_cons, List.map_nil, List.cons_append, List.nil_append, Nat.sub_self, List.replicate_zero, evSs, evS, evE, evA, evT, evTq, evSr, evP, bok, List.getElem?_cons_zero, List.getElem?_cons_succ, List.set_cons_zero, List.set_cons_succ, okV_t, if_true, if_false, Bool.false_eq_true, setTg, setAll, eqS, eqI, ltI, addI, subI, wEnc0, wEnc1, lk0, lk1, lk2, lk3, cmp_isin, bltD, bLen, lenD, itemsD, Option.map_some, h1, h2, mk2, bTuple]
  rfl
theorem run_loop (hx : Ix fns iC iH iA iT iP iK iN iO) {n q tl pa : Nat} {t : Tr} {x y : Option D} (hd : dep t ≤ n + 1) (hd2 : dep t ≤ 900) (hs : siz t ≤ 900) : ∀ (ws : List Wd) (b : Nat) (kb : List (List Ky × D)) (S : Sto) (told past : List D) (z : Option D), (∀ w ∈ ws, w.Ok) → DOk kb → GoodRun t ws kb → TK q b tl pa (enc t) S kb told past → told.length + ws.length < 1000000 → past.length + ws.length < 1000000 →
    ∃ S' b' kb' past' z', forD (fun σ S => evSs (callN fns (n + 2)) (.cons (.ex (.meth 1 iK (.var 2) (.cons (.var 3) (.nil)))) (.nil)) σ S) (.name 3) (ws.map Wd.enc) [x, y, some (.obj q), z] S = .ok (.nx, [x, y, some (.obj q), z']) S' ∧ TK q b' tl pa (enc t) S' kb' (told ++ (runT t ws kb).map toldD) past' ∧ Fq q tl pa S S'
  | [], b, kb, S, told, past, z, _, _, _, h, _, _ => ⟨S, b, kb, past, z, rfl, by simpa [runT] using h, Nat.le_refl _, fun _ _ _ _ _ => rfl⟩
  | w :: ws, b, kb, S, told, past, z, hw, hk, hg, h, l1, l2 => by
    simp only [List.length_cons] at l1 l2
    obtain ⟨S1, pl, c1, c2, c3, c4⟩ := tick_ok (n := n) (hw w (.head _)) hx.hC hx.hH hx.hA hx.hT hx.hP hx.hK h (dok_bf hk) hg.1 hd hd2 hs (by omega) (by omega)
    obtain ⟨S2, b2, kb2, past2, z2, d1, d2, d3⟩ := run_loop hx hd hd2 hs ws pl _ S1 _ _ (some w.enc) (fun v hv => hw v (.tail _ hv)) (dok_puts _ dok_nil) hg.2 c2 (by simp; omega) (by simp; omega)
    refine ⟨S2, b2, kb2, past2, z2, ?_, ?_, Nat.le_trans c3.1 d3.1, fun i hi i1 i2 i3 => (d3.2 i (Nat.lt_of_lt_of_le hi c3.1) i1 i2 i3).trans (c3.2 i hi i1 i2 i3)⟩
    · have h1 := h.hq
      simp only [List.map_cons, forD, evSs, evS, evE, evA, evT, evTq, evSr, evP, bok, List.getElem?_cons_zero, List.getElem?_cons_succ, List.set_cons_zero, List.set_cons_succ, okV_t, if_true, if_false, Bool.false_eq_true, setTg, setAll, eqS, eqI, ltI, addI, subI, wEnc0, wEnc1, lk0, lk1, lk2, lk3, cmp_isin, bltD, bLen, lenD, itemsD, Option.map_some, h1, c1]
      exact d1
    · simpa [runT, toldD] using d2
theorem run_ok (hx : Ix fns iC iH iA iT iP iK iN iO) (hR : fns[iR]? = some (rnF iN iK iO)) {n : Nat} {t : Tr} {ws : List Wd} {S : Sto} (hd : dep t ≤ n + 1) (hd2 : dep t ≤ 900) (hs : siz t ≤ 900) (hw : ∀ w ∈ ws, w.Ok) (hg : GoodRun t ws []) (hl : ws.length < 1000000) {wd : D} (hwd : seqD wd = some (ws.map Wd.enc)) :
    ∃ S', callN fns (n + 3) iR [enc t, wd] S = .ok (.tup ((runT t ws []).map toldD)) S' ∧ Pre S S' := by
  let S1 : Sto := S ++ [.ins 1 [(4, enc t), (2, .obj (S.length + 1)), (5, .obj (S.length + 2)), (6, .obj (S.length + 3))], .dct [], .lst [], .lst []]
  have hK : TK S.length (S.length + 1) (S.length + 2) (S.length + 3) (enc t) S1 [] [] [] := ⟨by simp [S1], by simp [S1], by simp [S1], by simp [S1], by omega⟩
  have hp : Pre S S1 := ⟨by simp [S1], fun i hi => List.getElem?_append_left hi⟩
  obtain ⟨S2, b2, kb2, past2, z2, d1, d2, d3⟩ := run_loop hx (x := some (enc t)) (y := some wd) hd hd2 hs ws _ _ S1 _ _ none hw dok_nil hg hK (by simpa using hl) (by simpa using hl)
  rw [List.nil_append] at d2
  refine ⟨S2, ?_, d3.old hp rfl (by omega) (by omega) (by omega)⟩
  rw [call_at hR rfl]
  show (evSs (callN fns (n + 2)) (rnB iN iK iO) [some (enc t), some wd, none, none] S).bind _ = _
  unfold rnB
  have t1 := ninit (k := n + 1) hx.hN S (enc t)
  have z4 : isNon .non = true := rfl
  have a1 : evS (callN fns (n + 2)) (.set 2 (.make 1 iN (.cons (.var 0) (.nil)))) [some (enc t), some wd, none, none] S = .ok (.nx, [some (enc t), some wd, some (.obj S.length), none]) S1 := by
    simp only [evSs, evS, evE, evA, evT, evTq, evSr, evP, bok, List.getElem?_cons_zero, List.getElem?_cons_succ, List.set_cons_zero, List.set_cons_succ, okV_t, if_true, if_false, Bool.false_eq_true, setTg, setAll, eqS, eqI, ltI, addI, subI, wEnc0, wEnc1, lk0, lk1, lk2, lk3, cmp_isin, bltD, bLen, lenD, itemsD, Option.map_some, t1, z4]
    rfl
  have a2 : evS (callN fns (n + 2)) (.for (.seq (.var 1)) (.name 3) (.cons (.ex (.meth 1 iK (.var 2) (.cons (.var 3) (.nil)))) (.nil))) [some (enc t), some wd, some (.obj S.length), none] S1 = .ok (.nx, [some (enc t), some wd, some (.obj S.length), z2]) S2 := by
    rw [evS]
    simp only [evSr, evE, bok, List.getElem?_cons_zero, List.getElem?_cons_succ, hwd]
    exact d1
  rw [ss_nx a1, ss_nx a2]
  have h1 := d2.hq
  have h2 := told_ok (k := n + 1) hx.hO d2
  simp only [evSs, evS, evE, evA, evT, evTq, evSr, evP, bok, List.getElem?_cons_zero, List.getElem?_cons_succ, List.set_cons_zero, List.set_cons_succ, okV_t, if_true, if_false, Bool.false_eq_true, setTg, setAll, eqS, eqI, ltI, addI, subI, wEnc0, wEnc1, lk0, lk1, lk2, lk3, cmp_isin, bltD, bLen, lenD, itemsD, Option.map_some, h1, h2]
  rfl
end
/-! ### no holds -/
mutual
def NoHold : Tr → Prop
  | .iff _ => True
  | .act c => c = 112 ∨ c = 113 ∨ c = 114
  | .inv t => NoHold t
  | .row ts => ts ≠ [] ∧ NoHolds ts
  | .pick ts => ts ≠ [] ∧ NoHolds ts
  | .hold _ => False
def NoHolds : List Tr → Prop
  | [] => True
  | t :: ts => NoHold t ∧ NoHolds ts
end
mutual
theorem nh_good {bf : List Int → Nat} : ∀ (t : Tr) (y : List Int), NoHold t → Good bf t y
  | .iff _, _, _ => trivial
  | .act _, _, h => h
  | .inv t, y, h => by simp only [NoHold] at h; exact nh_good t _ h
  | .row ts, y, h => by simp only [NoHold] at h; exact ⟨h.1, nh_goods ts y 0 h.2⟩
  | .pick ts, y, h => by simp only [NoHold] at h; exact ⟨h.1, nh_goods ts y 0 h.2⟩
  | .hold _, _, h => by simp only [NoHold] at h
theorem nh_goods {bf : List Int → Nat} : ∀ (ts : List Tr) (y : List Int) (i : Nat), NoHolds ts → Goods bf ts y i
  | [], _, _, _ => trivial
  | t :: ts, y, i, h => by simp only [NoHolds] at h; exact ⟨nh_good t _ h.1, nh_goods ts y (i + 1) h.2⟩
end
mutual
theorem nh_ps {w : Wd} {bf : List Int → Nat} : ∀ (t : Tr) (y : List Int), NoHold t → (tk w bf t y).ps = []
  | .iff _, _, _ => by simp only [tk]
  | .act _, _, h => by simp only [tk]
  | .inv t, y, h => by simp only [NoHold] at h; simp only [tk]; exact nh_ps t _ h
  | .row ts, y, h => by simp only [NoHold] at h; simp only [tk]; exact nh_pss ts y 0 0 h.2
  | .pick ts, y, h => by simp only [NoHold] at h; simp only [tk]; exact nh_pss ts y 0 0 h.2
  | .hold _, _, h => by simp only [NoHold] at h
theorem nh_pss {w : Wd} {bf : List Int → Nat} {g : Nat} : ∀ (ts : List Tr) (y : List Int) (i k : Nat), NoHolds ts → (al w bf g ts y i k).ps = []
  | [], _, _, _, _ => by simp only [al]
  | t :: ts, y, i, 0, h => by
    simp only [NoHolds] at h
    simp only [al]
    split
    · simp [nh_ps t _ h.1, nh_pss ts y (i + 1) 0 h.2]
    · exact nh_ps t _ h.1
  | t :: ts, y, i, k + 1, h => by simp only [NoHolds] at h; simp only [al]; exact nh_pss ts y (i + 1) k h.2
end
theorem nh_run {t : Tr} (h : NoHold t) : ∀ (ws : List Wd) (kb : List (List Ky × D)), GoodRun t ws kb
  | [], _ => trivial
  | w :: ws, kb => ⟨nh_good t [] h, nh_run h ws _⟩
theorem nh_runT {t : Tr} (h : NoHold t) : ∀ (ws : List Wd), runT t ws [] = ws.map fun w => (w, (tk w (bfOf []) t []).ds, (tk w (bfOf []) t []).s)
  | [] => rfl
  | w :: ws => by
    have := nh_runT h ws
    simp only [runT, nh_ps t [] h, List.map_cons]
    rw [← this]; rfl
/-! ### comprehensions -/
theorem comp_map {f : D → Sto → Res (Option D)} {S : Sto} {g : D → D} : ∀ (ds : List D), (∀ d ∈ ds, f d S = .ok (some (g d)) S) → compD f ds S = .ok (ds.map g) S
  | [], _ => rfl
  | d :: ds, h => by
    simp only [compD, h d (.head _), bok, comp_map ds (fun x hx => h x (.tail _ hx))]
    rfl
/-- with draws -/
theorem comp_draw {f : D → Sto → Res (Option D)} {I : Nat → Sto → Prop} {P : D → Prop} {k : Nat} (hk : 0 < k) : ∀ (ds : List D) (n : Nat) (S : Sto), I n S → (∀ d ∈ ds, ∀ m S, I m S → m < n + k * ds.length → ∃ v S', f d S = .ok (some v) S' ∧ P v ∧ I (m + k) S') →
    ∃ vs S', compD f ds S = .ok vs S' ∧ vs.length = ds.length ∧ (∀ v ∈ vs, P v) ∧ I (n + k * ds.length) S'
  | [], n, S, hI, _ => ⟨[], S, rfl, rfl, (nofun), by simpa using hI⟩
  | d :: ds, n, S, hI, h => by
    have e : k * (ds.length + 1) = k + k * ds.length := by rw [Nat.mul_add]; omega
    obtain ⟨v, S1, a1, a2, a3⟩ := h d (.head _) n S hI (by rw [List.length_cons, e]; omega)
    obtain ⟨vs, S2, b1, b2, b3, b4⟩ := comp_draw hk ds (n + k) S1 a3 (fun x hx m S hm hl => h x (.tail _ hx) m S hm (by rw [List.length_cons, e]; omega))
    refine ⟨v :: vs, S2, ?_, by simp [b2], ?_, by rw [List.length_cons, e, ← Nat.add_assoc]; exact b4⟩
    · simp only [compD, a1, bok, b1]; rfl
    · intro x hx
      rcases List.mem_cons.mp hx with e | hx
      · subst e; exact a2
      · exact b3 x hx
end Ev

namespace Ev
/-! ### drawn letters, worlds -/
def Dr (t : Nat) (S S' : Sto) : Prop := S'.length = S.length ∧ ∀ i, i ≠ t → S'[i]? = S[i]?
theorem Dr.refl {t : Nat} {S : Sto} : Dr t S S := ⟨rfl, fun _ _ => rfl⟩
theorem Dr.trans {t : Nat} {S1 S2 S3 : Sto} (h : Dr t S1 S2) (g : Dr t S2 S3) : Dr t S1 S3 := ⟨g.1.trans h.1, fun i a => (g.2 i a).trans (h.2 i a)⟩
/-- a step of a comprehension -/
def stepC (c : Calls) (tg : Tg) (ts : Tq) (elt : Ex) (own : List Nat) (σ : Nv) (d : D) (S : Sto) : Res (Option D) := match setTg tg d (wipeN σ own) with
        | none => .bad
        | some σ' => (evTq c ts σ' S).bind fun k S => if k then (evE c elt σ' S).bind fun v S => .ok (some v) S else .ok none S
theorem comp_at {c : Calls} {src : Sr} {tg : Tg} {ts : Tq} {elt : Ex} {own : List Nat} {σ : Nv} {S S1 S2 : Sto} {ds xs : List D} (h1 : evSr c src σ S = .ok ds S1) (h2 : compD (stepC c tg ts elt own σ) ds S1 = .ok xs S2) (h3 : xs.length ≤ 1000000) : evE c (.comp src tg ts elt own) σ S = .ok (.lst xs) S2 := by
  rw [evE, h1]
  have h2' : (compD (stepC c tg ts elt own σ) ds S1).bind (fun xs S => okV (decide (xs.length ≤ sizeL)) (D.lst xs) S) = .ok (.lst xs) S2 := by
    rw [h2]
    simp only [bok]
    rw [decide_eq_true (by unfold sizeL; omega), okV_t]
  exact h2'
theorem step_n {c : Calls} {tg : Tg} {elt : Ex} {own : List Nat} {σ σ' : Nv} {d v : D} {S S' : Sto} (h1 : setTg tg d (wipeN σ own) = some σ') (h2 : evE c elt σ' S = .ok v S') : stepC c tg .none elt own σ d S = .ok (some v) S' := by
  unfold stepC
  rw [h1]
  simp only [evTq, bok, if_true, h2]
theorem step_t {c : Calls} {tg : Tg} {t : Ts} {elt : Ex} {own : List Nat} {σ σ' : Nv} {d v : D} {S S1 S' : Sto} (h1 : setTg tg d (wipeN σ own) = some σ') (h0 : evT c t σ' S = .ok true S1) (h2 : evE c elt σ' S1 = .ok v S') : stepC c tg (.some t) elt own σ d S = .ok (some v) S' := by
  unfold stepC
  rw [h1]
  simp only [evTq, h0, bok, if_true, h2]
theorem step_f {c : Calls} {tg : Tg} {t : Ts} {elt : Ex} {own : List Nat} {σ σ' : Nv} {d : D} {S S1 : Sto} (h1 : setTg tg d (wipeN σ own) = some σ') (h0 : evT c t σ' S = .ok false S1) : stepC c tg (.some t) elt own σ d S = .ok none S1 := by
  unfold stepC
  rw [h1]
  simp only [evTq, h0, bok, Bool.false_eq_true, if_false]
theorem comp_drawO {f : D → Sto → Res (Option D)} {I : Nat → Sto → Prop} {P : D → Prop} {k : Nat} (hk : 0 < k) : ∀ (ds : List D) (n : Nat) (S : Sto), I n S → (∀ d ∈ ds, ∀ m S, I m S → m < n + k * ds.length → ∃ v S', f d S = .ok v S' ∧ (∀ x, v = some x → P x) ∧ I (m + k) S') →
    ∃ vs S', compD f ds S = .ok vs S' ∧ vs.length ≤ ds.length ∧ (∀ v ∈ vs, P v) ∧ I (n + k * ds.length) S'
  | [], n, S, hI, _ => ⟨[], S, rfl, Nat.le_refl _, (nofun), by simpa using hI⟩
  | d :: ds, n, S, hI, h => by
    have e : k * (ds.length + 1) = k + k * ds.length := by rw [Nat.mul_add]; omega
    obtain ⟨v, S1, a1, a2, a3⟩ := h d (.head _) n S hI (by rw [List.length_cons, e]; omega)
    obtain ⟨vs, S2, b1, b2, b3, b4⟩ := comp_drawO hk ds (n + k) S1 a3 (fun x hx m S hm hl => h x (.tail _ hx) m S hm (by rw [List.length_cons, e]; omega))
    refine ⟨v.toList ++ vs, S2, ?_, ?_, ?_, by rw [List.length_cons, e, ← Nat.add_assoc]; exact b4⟩
    · simp only [compD, a1, bok, b1]
    · cases v <;> simp <;> omega
    · intro x hx
      rcases List.mem_append.mp hx with hx | hx
      · exact a2 x (by simpa using hx)
      · exact b3 x hx
theorem signs_of {Q : Nat → Prop} : ∀ {vs : List D}, (∀ v ∈ vs, ∃ c, Q c ∧ v = .str [c]) → ∃ cs, vs = signs cs ∧ ∀ c ∈ cs, Q c
  | [], _ => ⟨[], rfl, nofun⟩
  | v :: vs, h => by
    obtain ⟨c, h1, h2⟩ := h v (.head _)
    obtain ⟨cs, h3, h4⟩ := signs_of (vs := vs) (fun x hx => h x (.tail _ hx))
    refine ⟨c :: cs, by rw [h2, h3]; rfl, fun x hx => ?_⟩
    rcases List.mem_cons.mp hx with e | hx
    · subst e; exact h1
    · exact h4 x hx
theorem rngD_len : ∀ (n : Nat) (lo : Int), (rangeD lo n).length = n
  | 0, _ => rfl
  | n + 1, lo => by simp [rangeD, rngD_len n]
def pickB (iD : Nat) : Ss := .cons (.ret (.idx (.var 2) (.call iD (.cons (.var 0) (.cons (.var 1) (.cons (.blt .len (.cons (.var 2) (.nil))) (.nil)))))))
    (.nil)
def pickF (iD : Nat) : Fn := ⟨3, 3, false, pickB iD⟩
section
variable {fns : List Fn} {iD iK : Nat}
/-- a draw, in the words of the store -/
theorem draw_ok' (hD : fns[iD]? = some drawF) (k : Nat) (ns : List Int) {t : Nat} {S : Sto} {n : Nat} {m : Int} (hT : T t S n) (hn : n < 1000000) (hm : 0 < m) :
    ∃ r S', callN fns (k + 1) iD [.lst (ns.map .int), .obj t, .int m] S = .ok (.int (r : Nat)) S' ∧ (r : Int) < m ∧ T t S' (n + 1) ∧ Dr t S S' := by
  obtain ⟨r, S', h1, h2, h3, h4, h5, h6⟩ := draw_ok hD k ns hT hn hm
  refine ⟨r.toNat, S', ?_, by omega, h4, h5, h6⟩
  rw [h1, Int.toNat_of_nonneg h2]
theorem pick_str (hD : fns[iD]? = some drawF) (hK : fns[iK]? = some (pickF iD)) (k : Nat) (ns : List Int) {t : Nat} {S : Sto} {n : Nat} {s : List Nat} (hT : T t S n) (hn : n < 1000000) (h0 : 0 < s.length) (h1 : s.length ≤ 1000000) :
    ∃ c S', callN fns (k + 2) iK [.lst (ns.map .int), .obj t, .str s] S = .ok (.str [c]) S' ∧ c ∈ s ∧ T t S' (n + 1) ∧ Dr t S S' := by
  obtain ⟨r, S', a1, a2, a3, a4⟩ := draw_ok' hD k ns hT hn (m := (s.length : Nat)) (by omega)
  have hr : r < s.length := by omega
  refine ⟨s[r], S', ?_, List.getElem_mem hr, a3, a4⟩
  rw [call_at hK rfl]
  have hl : s.length ≤ sizeL := by unfold sizeL; omega
  have hi : idxD (.str s) (.int (r : Nat)) S' = .ok (.str [s[r]]) S' := by
    show (if s.length ≤ sizeL then _ else _) = _
    rw [if_pos hl]
    unfold ixD
    rw [if_pos (by omega), if_pos (by omega)]
    simp [List.getElem?_eq_getElem hr]
  simp only [pickF, pickB, List.map_cons, List.map_nil, List.cons_append, List.nil_append, Nat.sub_self, List.replicate_zero, evSs, evS, evE, evA, evT, evTq, evSr, evP, bok, List.getElem?_cons_zero, List.getElem?_cons_succ, List.set_cons_zero, List.set_cons_succ, okV_t, if_true, if_false, Bool.false_eq_true, setTg, setAll, eqS, eqI, ltI, addI, subI, wEnc0, wEnc1, lk0, lk1, lk2, lk3, cmp_isin, bltD, bLen, lenD, itemsD, Option.map_some, hl, a1, hi]
  rfl
theorem pick_lst (hD : fns[iD]? = some drawF) (hK : fns[iK]? = some (pickF iD)) (k : Nat) (ns : List Int) {t : Nat} {S : Sto} {n : Nat} {s : List D} (hT : T t S n) (hn : n < 1000000) (h0 : 0 < s.length) :
    ∃ c S', callN fns (k + 2) iK [.lst (ns.map .int), .obj t, .lst s] S = .ok c S' ∧ c ∈ s ∧ T t S' (n + 1) ∧ Dr t S S' := by
  obtain ⟨r, S', a1, a2, a3, a4⟩ := draw_ok' hD k ns hT hn (m := (s.length : Nat)) (by omega)
  have hr : r < s.length := by omega
  refine ⟨s[r], S', ?_, List.getElem_mem hr, a3, a4⟩
  rw [call_at hK rfl]
  have hi : idxD (.lst s) (.int (r : Nat)) S' = .ok s[r] S' := by
    show (match (ixD s.length (r : Nat)).bind fun i => s[i]? with | some v => Res.ok v S' | none => .bad) = _
    unfold ixD
    rw [if_pos (by omega), if_pos (by omega)]
    simp [List.getElem?_eq_getElem hr]
  simp only [pickF, pickB, List.map_cons, List.map_nil, List.cons_append, List.nil_append, Nat.sub_self, List.replicate_zero, evSs, evS, evE, evA, evT, evTq, evSr, evP, bok, List.getElem?_cons_zero, List.getElem?_cons_succ, List.set_cons_zero, List.set_cons_succ, okV_t, if_true, if_false, Bool.false_eq_true, setTg, setAll, eqS, eqI, ltI, addI, subI, wEnc0, wEnc1, lk0, lk1, lk2, lk3, cmp_isin, bltD, bLen, lenD, itemsD, Option.map_some, a1, hi]
  rfl
end
def worldB (iD iK : Nat) : Ss := .cons (.set 2 (.bm .join (.cst (D.str [])) (.cons (.comp (.seq (.cst (D.str [97, 98, 99]))) (.name 3) (.some (.cmp .eq (.call iD (.cons (.var 0) (.cons (.var 1) (.cons (.cst (D.int (2))) (.nil))))) (.cst (D.int (0))))) (.var 3) [3]) (.nil))))
    (.cons (.ret (.tup (.cons (.var 2) (.cons (.bm .join (.cst (D.str [])) (.cons (.comp (.range1 (.cst (D.int (3)))) (.name 4) .none (.call iK (.cons (.var 0) (.cons (.var 1) (.cons (.cst (D.str [100, 100, 100, 102, 102, 102, 103, 103])) (.nil))))) [4]) (.nil))) (.nil)))))
    (.nil))
def worldF (iD iK : Nat) : Fn := ⟨2, 5, false, worldB iD iK⟩
/-- a world that is drawn -/
def Wd.Fine (w : Wd) : Prop := w.Ok ∧ w.ss.length ≤ 3 ∧ ∀ c ∈ w.ss, c = 97 ∨ c = 98 ∨ c = 99
theorem world_ok {fns : List Fn} {iD iK iW : Nat} (hD : fns[iD]? = some drawF) (hK : fns[iK]? = some (pickF iD)) (hW : fns[iW]? = some (worldF iD iK)) (k : Nat) (ns : List Int) {t : Nat} {S : Sto} {n : Nat} (hT : T t S n) (hn : n + 6 ≤ 1000000) :
    ∃ w S', callN fns (k + 3) iW [.lst (ns.map .int), .obj t] S = .ok (Wd.enc w) S' ∧ w.Fine ∧ T t S' (n + 6) ∧ Dr t S S' := by
  -- the senses
  obtain ⟨vs, S1, a1, a2, a3, a4⟩ := comp_drawO (f := stepC (callN fns (k + 2)) (.name 3) (.some (.cmp .eq (.call iD (.cons (.var 0) (.cons (.var 1) (.cons (.cst (D.int (2))) (.nil))))) (.cst (D.int (0))))) (.var 3) [3] [some (.lst (ns.map .int)), some (.obj t), none, none, none])
      (I := fun m S' => T t S' m ∧ Dr t S S') (P := fun v => ∃ c, (c = 97 ∨ c = 98 ∨ c = 99) ∧ v = .str [c]) (k := 1) (by omega) [.str [97], .str [98], .str [99]] n S ⟨hT, Dr.refl⟩ (by
    intro d hd m S2 hI hm
    simp only [List.length_cons, List.length_nil] at hm
    obtain ⟨r, S3, b1, b2, b3, b4⟩ := draw_ok' hD (k + 1) ns hI.1 (by omega) (m := 2) (by decide)
    have hdc : ∃ c, (c = 97 ∨ c = 98 ∨ c = 99) ∧ d = .str [c] := by
      simp only [List.mem_cons, List.not_mem_nil, or_false] at hd
      rcases hd with e | e | e <;> subst e
      · exact ⟨97, by simp⟩
      · exact ⟨98, by simp⟩
      · exact ⟨99, by simp⟩
    have hT' : evT (callN fns (k + 2)) (.cmp .eq (.call iD (.cons (.var 0) (.cons (.var 1) (.cons (.cst (D.int (2))) (.nil))))) (.cst (D.int (0)))) [some (.lst (ns.map .int)), some (.obj t), none, some d, none] S2 = .ok (((r : Nat) : Int) == 0) S3 := by
      simp only [evSs, evS, evE, evA, evT, evTq, evSr, evP, bok, List.getElem?_cons_zero, List.getElem?_cons_succ, List.set_cons_zero, List.set_cons_succ, okV_t, if_true, if_false, Bool.false_eq_true, setTg, setAll, eqS, eqI, ltI, addI, subI, wEnc0, wEnc1, lk0, lk1, lk2, lk3, cmp_isin, bltD, bLen, lenD, itemsD, Option.map_some, b1]
    cases hb : (((r : Nat) : Int) == 0) <;> rw [hb] at hT'
    · exact ⟨none, S3, step_f rfl hT', nofun, b3, hI.2.trans b4⟩
    · exact ⟨some d, S3, step_t rfl hT' rfl, fun x hx => by cases hx; exact hdc, b3, hI.2.trans b4⟩)
  obtain ⟨ss, e1, e2⟩ := signs_of a3
  subst e1
  have l1 : ss.length ≤ 3 := by simpa [signs] using a2
  -- the deeds
  obtain ⟨us, S2, b1, b2, b3, b4⟩ := comp_draw (f := stepC (callN fns (k + 2)) (.name 4) .none (.call iK (.cons (.var 0) (.cons (.var 1) (.cons (.cst (D.str [100, 100, 100, 102, 102, 102, 103, 103])) (.nil))))) [4] [some (.lst (ns.map .int)), some (.obj t), some (.str ss), none, none])
      (I := fun m S' => T t S' m ∧ Dr t S S') (P := fun v => ∃ c, (c = 100 ∨ c = 102 ∨ c = 103) ∧ v = .str [c]) (k := 1) (by omega) (rangeD 0 3) (n + 3) S1 a4 (by
    intro d hd m S2 hI hm
    rw [rngD_len] at hm
    obtain ⟨c, S3, b1, b2, b3, b4⟩ := pick_str hD hK k ns (s := [100, 100, 100, 102, 102, 102, 103, 103]) hI.1 (by omega) (by decide) (by decide)
    refine ⟨.str [c], S3, step_n rfl ?_, ⟨c, by simp at b2; omega, rfl⟩, b3, hI.2.trans b4⟩
    simp only [evSs, evS, evE, evA, evT, evTq, evSr, evP, bok, List.getElem?_cons_zero, List.getElem?_cons_succ, List.set_cons_zero, List.set_cons_succ, okV_t, if_true, if_false, Bool.false_eq_true, setTg, setAll, eqS, eqI, ltI, addI, subI, wEnc0, wEnc1, lk0, lk1, lk2, lk3, cmp_isin, bltD, bLen, lenD, itemsD, Option.map_some, wipeN, b1])
  obtain ⟨cs, e3, e4⟩ := signs_of b3
  subst e3
  rw [rngD_len] at b2 b4
  have l2 : cs.length = 3 := by simpa [signs] using b2
  obtain ⟨p, q, r, rfl⟩ : ∃ p q r, cs = [p, q, r] := by
    match cs, l2 with
    | [p, q, r], _ => exact ⟨p, q, r, rfl⟩
  refine ⟨⟨ss, p, q, r⟩, S2, ?_, ⟨⟨e4 p (by simp), e4 q (by simp), e4 r (by simp)⟩, l1, e2⟩, b4.1, b4.2⟩
  rw [call_at hW rfl]
  show (evSs (callN fns (k + 2)) (worldB iD iK) [some (.lst (ns.map .int)), some (.obj t), none, none, none] S).bind _ = _
  have j1 := mjoin_signs (d := .lst (signs ss)) (S := S1) (ds := ss) rfl (by omega)
  have j2 := mjoin_signs (d := .lst (signs [p, q, r])) (S := S2) (ds := [p, q, r]) rfl (by simp)
  have z4 : ∀ a b : D, decide ([a, b].length ≤ sizeL) = true := fun _ _ => rfl
  have f1 := comp_at (c := callN fns (k + 2)) (σ := [some (.lst (ns.map .int)), some (.obj t), none, none, none]) (src := .seq (.cst (D.str [97, 98, 99]))) rfl a1 (by simp [signs]; omega)
  have f2 := comp_at (c := callN fns (k + 2)) (σ := [some (.lst (ns.map .int)), some (.obj t), some (.str ss), none, none]) (src := .range1 (.cst (D.int 3))) rfl b1 (by simp [signs])
  unfold worldB
  simp only [evSs, evS, evE.eq_def (callN fns (k + 2)) (.bm _ _ _), evE.eq_def (callN fns (k + 2)) (.tup _), evA, f1, bok, bmPre, isSD, if_true, bmD, j1, evE.eq_def (callN fns (k + 2)) (.cst _), List.set_cons_zero, List.set_cons_succ, f2, j2, evE.eq_def (callN fns (k + 2)) (.var _), List.getElem?_cons_zero, List.getElem?_cons_succ, z4, okV_t]
  rfl
end Ev

namespace K24
open PySem L2 Ev
def b_0 : Ss := .cons (.while (.val (.cst (D.bl true))) (.cons (.doc)
    (.nil)))
    (.nil)
def fn_0 : Fn := ⟨1, 1, false, b_0⟩
def b_1 : Ss := .cons (.fld 0 (.var 0) 0 (.var 1))
    (.cons (.fld 0 (.var 0) 1 (.var 2))
    (.cons (.fld 0 (.var 0) 2 (.newd))
    (.cons (.fld 0 (.var 0) 3 (.newl))
    (.nil))))
def fn_1 : Fn := ⟨3, 3, false, b_1⟩
def b_2 : Ss := .cons (.unp [3, 4] (.var 1))
    (.cons (.ite (.cmp .eq (.var 3) (.cst (D.str [105, 102]))) (.cons (.ret (.ite (.cmp .isin (.var 4) (.idx (.fld 0 (.var 0) 0) (.cst (D.int (0))))) (.cst (D.str [100])) (.cst (D.str [102]))))
    (.nil)) (.nil))
    (.cons (.ite (.cmp .eq (.var 3) (.cst (D.str [100, 111]))) (.cons (.ex (.bm .append (.fld 0 (.var 0) 3) (.cons (.var 4) (.nil))))
    (.cons (.ret (.idx (.idx (.fld 0 (.var 0) 0) (.cst (D.int (1)))) (.gtix "DEEDS" [[112], [113], [114]] (.var 4))))
    (.nil))) (.nil))
    (.cons (.ite (.cmp .eq (.var 3) (.cst (D.str [110, 111, 116]))) (.cons (.ret (.gdict "TURNED" [([100], [102]), ([102], [100]), ([103], [103])] (.meth 0 2 (.var 0) (.cons (.var 4) (.cons (.bin .add (.var 2) (.tup (.cons (.cst (D.int (0))) (.nil)))) (.nil))))))
    (.nil)) (.nil))
    (.cons (.ite (.cmp .eq (.var 3) (.cst (D.str [104, 111, 108, 100]))) (.cons (.ret (.meth 0 3 (.var 0) (.cons (.var 4) (.cons (.var 2) (.nil)))))
    (.nil)) (.nil))
    (.cons (.ret (.idx (.meth 0 4 (.var 0) (.cons (.var 4) (.cons (.var 2) (.cons (.cst (D.int (0))) (.cons (.ite (.cmp .eq (.var 3) (.cst (D.str [112, 105, 99, 107]))) (.cst (D.str [102])) (.cst (D.str [100]))) (.nil)))))) (.cst (D.int (0)))))
    (.nil))))))
def fn_2 : Fn := ⟨3, 5, false, b_2⟩
def b_3 : Ss := .cons (.unp [3, 4] (.meth 0 4 (.var 0) (.cons (.var 1) (.cons (.var 2) (.cons (.dget (.fld 0 (.var 0) 1) (.var 2) (.cst (D.int (0)))) (.cons (.cst (D.str [100])) (.nil)))))))
    (.cons (.ite (.cmp .eq (.var 3) (.cst (D.str [103]))) (.cons (.dput (.fld 0 (.var 0) 2) (.var 2) (.var 4))
    (.nil)) (.nil))
    (.cons (.ret (.var 3))
    (.nil)))
def fn_3 : Fn := ⟨3, 5, false, b_3⟩
def b_4 : Ss := .cons (.set 5 (.meth 0 2 (.var 0) (.cons (.idx (.var 1) (.var 3)) (.cons (.bin .add (.var 2) (.tup (.cons (.var 3) (.nil)))) (.nil)))))
    (.cons (.while (.and (.cmp .eq (.var 5) (.var 4)) (.cmp .lt (.bin .add (.var 3) (.cst (D.int (1)))) (.blt .len (.cons (.var 1) (.nil))))) (.cons (.aug .add 3 (.cst (D.int (1))))
    (.cons (.set 5 (.meth 0 2 (.var 0) (.cons (.idx (.var 1) (.var 3)) (.cons (.bin .add (.var 2) (.tup (.cons (.var 3) (.nil)))) (.nil)))))
    (.nil))))
    (.cons (.ret (.tup (.cons (.var 5) (.cons (.var 3) (.nil)))))
    (.nil)))
def fn_4 : Fn := ⟨5, 6, false, b_4⟩
def b_5 : Ss := .cons (.fld 1 (.var 0) 4 (.var 1))
    (.cons (.fld 1 (.var 0) 2 (.newd))
    (.cons (.fld 1 (.var 0) 5 (.newl))
    (.cons (.fld 1 (.var 0) 6 (.newl))
    (.nil))))
def fn_5 : Fn := ⟨2, 2, false, b_5⟩
def b_6 : Ss := .cons (.set 2 (.make 0 1 (.cons (.var 1) (.cons (.fld 1 (.var 0) 2) (.nil)))))
    (.cons (.set 3 (.meth 0 2 (.var 2) (.cons (.fld 1 (.var 0) 4) (.cons (.tup (.nil)) (.nil)))))
    (.cons (.set 4 (.bm .join (.cst (D.str [])) (.cons (.fld 0 (.var 2) 3) (.nil))))
    (.cons (.ex (.meth 1 11 (.var 0) (.nil)))
    (.cons (.fld 1 (.var 0) 2 (.fld 0 (.var 2) 2))
    (.cons (.ex (.bm .append (.fld 1 (.var 0) 5) (.cons (.tup (.cons (.var 1) (.cons (.var 4) (.cons (.var 3) (.nil))))) (.nil))))
    (.cons (.ret (.tup (.cons (.var 4) (.cons (.var 3) (.nil)))))
    (.nil)))))))
def fn_6 : Fn := ⟨2, 5, false, b_6⟩
def b_7 : Ss := .cons (.ex (.call 0 (.cons (.cst (D.int (0))) (.nil))))
    (.nil)
def fn_7 : Fn := ⟨1, 1, false, b_7⟩
def b_8 : Ss := .cons (.ret (.blt .tuple (.cons (.fld 1 (.var 0) 5) (.nil))))
    (.nil)
def fn_8 : Fn := ⟨1, 1, false, b_8⟩
def b_9 : Ss := .cons (.ex (.call 0 (.cons (.cst (D.int (1))) (.nil))))
    (.nil)
def fn_9 : Fn := ⟨1, 1, false, b_9⟩
def b_10 : Ss := .cons (.ite (.not (.val (.fld 1 (.var 0) 6))) (.cons (.bad)
    (.nil)) (.nil))
    (.cons (.unp [1, 2] (.bad))
    (.cons (.fld 1 (.var 0) 2 (.var 1))
    (.cons (.bad)
    (.nil))))
def fn_10 : Fn := ⟨1, 3, false, b_10⟩
def b_11 : Ss := .cons (.ex (.bm .append (.fld 1 (.var 0) 6) (.cons (.tup (.cons (.fld 1 (.var 0) 2) (.cons (.blt .len (.cons (.fld 1 (.var 0) 5) (.nil))) (.nil)))) (.nil))))
    (.nil)
def fn_11 : Fn := ⟨1, 1, false, b_11⟩
def b_12 : Ss := .cons (.set 2 (.make 1 5 (.cons (.var 0) (.nil))))
    (.cons (.for (.seq (.var 1)) (.name 3) (.cons (.ex (.meth 1 6 (.var 2) (.cons (.var 3) (.nil))))
    (.nil)))
    (.cons (.ret (.meth 1 8 (.var 2) (.nil)))
    (.nil)))
def fn_12 : Fn := ⟨2, 4, false, b_12⟩
def b_13 : Ss := .cons (.ex (.bm .append (.var 1) (.cons (.cst (D.int (0))) (.nil))))
    (.cons (.set 3 (.blt .len (.cons (.var 1) (.nil))))
    (.cons (.set 4 (.cst (D.int (0))))
    (.cons (.ite (.val (.var 0)) (.cons (.set 4 (.idx (.var 0) (.bin .mod (.var 3) (.blt .len (.cons (.var 0) (.nil))))))
    (.nil)) (.nil))
    (.cons (.set 5 (.bin .mod (.bin .add (.var 4) (.bin .mul (.cst (D.int (104729))) (.var 3))) (.cst (D.int (4294967291)))))
    (.cons (.set 5 (.bin .mod (.bin .mul (.bin .mod (.bin .mul (.var 5) (.var 5)) (.cst (D.int (4294967279)))) (.cst (D.int (48271)))) (.cst (D.int (4294967291)))))
    (.cons (.set 6 (.bin .mod (.bin .mul (.bin .mod (.bin .mul (.var 5) (.var 5)) (.cst (D.int (4294967279)))) (.cst (D.int (69621)))) (.cst (D.int (4294967291)))))
    (.cons (.ret (.bin .mod (.bin .add (.bin .mul (.bin .fdiv (.var 5) (.cst (D.int (64)))) (.cst (D.int (67108864)))) (.bin .fdiv (.var 6) (.cst (D.int (64))))) (.var 2)))
    (.nil))))))))
def fn_13 : Fn := ⟨3, 7, false, b_13⟩
def b_14 : Ss := .cons (.ret (.idx (.var 2) (.call 13 (.cons (.var 0) (.cons (.var 1) (.cons (.blt .len (.cons (.var 2) (.nil))) (.nil)))))))
    (.nil)
def fn_14 : Fn := ⟨3, 3, false, b_14⟩
def b_15 : Ss := .cons (.set 2 (.bm .join (.cst (D.str [])) (.cons (.comp (.seq (.cst (D.str [97, 98, 99]))) (.name 3) (.some (.cmp .eq (.call 13 (.cons (.var 0) (.cons (.var 1) (.cons (.cst (D.int (2))) (.nil))))) (.cst (D.int (0))))) (.var 3) [3]) (.nil))))
    (.cons (.ret (.tup (.cons (.var 2) (.cons (.bm .join (.cst (D.str [])) (.cons (.comp (.range1 (.cst (D.int (3)))) (.name 4) .none (.call 14 (.cons (.var 0) (.cons (.var 1) (.cons (.cst (D.str [100, 100, 100, 102, 102, 102, 103, 103])) (.nil))))) [4]) (.nil))) (.nil)))))
    (.nil))
def fn_15 : Fn := ⟨2, 5, false, b_15⟩
def b_16 : Ss := .cons (.par [4, 5, 6] (.cons (.ite (.cmp .eq (.var 0) (.cst (D.str [114, 111, 119]))) (.cst (D.str [100])) (.cst (D.str [102]))) (.cons (.cst (D.str [])) (.cons (.cst (D.str [100])) (.nil)))))
    (.cons (.for (.seq (.var 1)) (.name 3) (.cons (.set 5 (.bin .add (.var 5) (.var 3)))
    (.cons (.set 6 (.idx (.idx (.var 2) (.cst (D.int (1)))) (.bm .sindex (.cst (D.str [112, 113, 114])) (.cons (.var 3) (.nil)))))
    (.cons (.ite (.cmp .ne (.var 6) (.var 4)) (.cons (.brk)
    (.nil)) (.nil))
    (.nil)))))
    (.cons (.ret (.tup (.cons (.var 5) (.cons (.var 6) (.nil)))))
    (.nil)))
def fn_16 : Fn := ⟨3, 7, false, b_16⟩
def b_17 : Ss := .cons (.ret (.comp (.seq (.call 12 (.cons (.var 0) (.cons (.var 1) (.nil))))) (.name 2) .none (.sl (.var 2) (.some (.cst (D.int (1)))) .none) [2]))
    (.nil)
def fn_17 : Fn := ⟨2, 3, false, b_17⟩
def b_18 : Ss := .cons (.set 1 (.newl))
    (.cons (.for (.range1 (.cst (D.int (8)))) (.name 2) (.cons (.set 3 (.comp (.range1 (.bin .add (.cst (D.int (2))) (.call 13 (.cons (.var 0) (.cons (.var 1) (.cons (.cst (D.int (6))) (.nil))))))) (.name 14) .none (.call 14 (.cons (.var 0) (.cons (.var 1) (.cons (.cst (D.str [112, 113, 114])) (.nil))))) [14]))
    (.cons (.set 4 (.call 14 (.cons (.var 0) (.cons (.var 1) (.cons (.lst (.cons (.cst (D.str [114, 111, 119])) (.cons (.cst (D.str [112, 105, 99, 107])) (.nil)))) (.nil))))))
    (.cons (.set 5 (.ite (.cmp .eq (.var 4) (.cst (D.str [114, 111, 119]))) (.cst (D.str [112, 105, 99, 107])) (.cst (D.str [114, 111, 119]))))
    (.cons (.set 6 (.blt .tuple (.cons (.comp (.seq (.var 3)) (.name 16) .none (.tup (.cons (.cst (D.str [100, 111])) (.cons (.var 16) (.nil)))) [16]) (.nil))))
    (.cons (.set 7 (.blt .tuple (.cons (.comp (.range1 (.cst (D.int (6)))) (.name 14) .none (.call 15 (.cons (.var 0) (.cons (.var 1) (.nil)))) [14]) (.nil))))
    (.cons (.set 8 (.comp (.seq (.var 7)) (.name 15) .none (.call 16 (.cons (.var 4) (.cons (.var 3) (.cons (.var 15) (.nil))))) [15]))
    (.cons (.set 9 (.tup (.cons (.cst (D.str [110, 111, 116])) (.cons (.tup (.cons (.var 5) (.cons (.blt .tuple (.cons (.comp (.seq (.var 6)) (.name 17) .none (.tup (.cons (.cst (D.str [110, 111, 116])) (.cons (.var 17) (.nil)))) [17]) (.nil))) (.nil)))) (.nil)))))
    (.cons (.set 10 (.bin .add (.cst (D.int (1))) (.call 13 (.cons (.var 0) (.cons (.var 1) (.cons (.bin .sub (.blt .len (.cons (.var 6) (.nil))) (.cst (D.int (1)))) (.nil)))))))
    (.cons (.set 11 (.ite (.cmp .gt (.var 10) (.cst (D.int (1)))) (.tup (.cons (.var 4) (.cons (.sl (.var 6) .none (.some (.var 10))) (.nil)))) (.idx (.var 6) (.cst (D.int (0))))))
    (.cons (.set 12 (.ite (.cmp .lt (.var 10) (.bin .sub (.blt .len (.cons (.var 6) (.nil))) (.cst (D.int (1))))) (.tup (.cons (.var 4) (.cons (.sl (.var 6) (.some (.var 10)) .none) (.nil)))) (.idx (.var 6) (.neg (.cst (D.int (1)))))))
    (.cons (.for (.seq (.tup (.cons (.tup (.cons (.var 4) (.cons (.var 6) (.nil)))) (.cons (.var 9) (.cons (.tup (.cons (.var 4) (.cons (.tup (.cons (.var 11) (.cons (.var 12) (.nil)))) (.nil)))) (.nil)))))) (.name 13) (.cons (.ite (.cmp .ne (.call 17 (.cons (.var 13) (.cons (.var 7) (.nil)))) (.var 8)) (.cons (.ret (.cst (D.bl false)))
    (.nil)) (.nil))
    (.nil)))
    (.nil)))))))))))))
    (.cons (.ret (.cst (D.bl true)))
    (.nil)))
def fn_18 : Fn := ⟨1, 18, false, b_18⟩
def fns : List Fn := [fn_0, fn_1, fn_2, fn_3, fn_4, fn_5, fn_6, fn_7, fn_8, fn_9, fn_10, fn_11, fn_12, fn_13, fn_14, fn_15, fn_16, fn_17, fn_18]
theorem at_0 : fns[0]? = some fn_0 := rfl
theorem at_1 : fns[1]? = some fn_1 := rfl
theorem at_2 : fns[2]? = some fn_2 := rfl
theorem at_3 : fns[3]? = some fn_3 := rfl
theorem at_4 : fns[4]? = some fn_4 := rfl
theorem at_5 : fns[5]? = some fn_5 := rfl
theorem at_6 : fns[6]? = some fn_6 := rfl
theorem at_7 : fns[7]? = some fn_7 := rfl
theorem at_8 : fns[8]? = some fn_8 := rfl
theorem at_9 : fns[9]? = some fn_9 := rfl
theorem at_10 : fns[10]? = some fn_10 := rfl
theorem at_11 : fns[11]? = some fn_11 := rfl
theorem at_12 : fns[12]? = some fn_12 := rfl
theorem at_13 : fns[13]? = some fn_13 := rfl
theorem at_14 : fns[14]? = some fn_14 := rfl
theorem at_15 : fns[15]? = some fn_15 := rfl
theorem at_16 : fns[16]? = some fn_16 := rfl
theorem at_17 : fns[17]? = some fn_17 := rfl
theorem at_18 : fns[18]? = some fn_18 := rfl
end K24

namespace K24
open Ev
/-! ### what a row or a pick of deeds does -/
def dueL (w : Wd) (g : Nat) : Nat → List Nat → List Nat × Nat
  | sg, [] => ([], sg)
  | _, c :: r => if w.come c = g then (c :: (dueL w g g r).1, (dueL w g g r).2) else ([c], w.come c)
theorem due_app {w : Wd} {g : Nat} : ∀ (a : List Nat) (sg : Nat) (b : List Nat), a ≠ [] → dueL w g sg (a ++ b) = if (dueL w g sg a).2 = g then ((dueL w g sg a).1 ++ (dueL w g g b).1, (dueL w g g b).2) else dueL w g sg a
  | [c], sg, b, _ => by
    simp only [List.singleton_append, dueL]
    by_cases h : w.come c = g
    · simp [h]
    · simp [h]
  | c :: d :: a, sg, b, _ => by
    have ih := due_app (w := w) (g := g) (d :: a) g b (by simp)
    rw [List.cons_append, dueL]
    by_cases h : w.come c = g
    · rw [if_pos h, ih]
      conv => rhs; rw [dueL, if_pos h]
      simp only
      split <;> simp
    · rw [if_neg h]
      conv => rhs; rw [dueL, if_neg h]
      simp [h]
theorem due_mem {w : Wd} {g : Nat} : ∀ (a : List Nat) (sg : Nat), ∀ c ∈ (dueL w g sg a).1, c ∈ a
  | [], sg, c, h => by simp [dueL] at h
  | d :: a, sg, c, h => by
    simp only [dueL] at h
    split at h
    · rcases List.mem_cons.mp h with e | h
      · exact e ▸ .head _
      · exact .tail _ (due_mem a g c h)
    · rw [List.mem_singleton.mp h]; exact .head _
theorem due_sign {w : Wd} (hw : w.Ok) {g : Nat} : ∀ (a : List Nat) (sg : Nat), (sg = 100 ∨ sg = 102 ∨ sg = 103) → (g = 100 ∨ g = 102) → (dueL w g sg a).2 = 100 ∨ (dueL w g sg a).2 = 102 ∨ (dueL w g sg a).2 = 103
  | [], sg, h, _ => h
  | d :: a, sg, h, hg => by
    simp only [dueL]
    split
    · exact due_sign hw a g (by omega) hg
    · exact hw.come d
theorem due_len {w : Wd} {g : Nat} : ∀ (a : List Nat) (sg : Nat), (dueL w g sg a).1.length ≤ a.length
  | [], sg => by simp [dueL]
  | d :: a, sg => by
    have := due_len (w := w) (g := g) a g
    simp only [dueL]
    split <;> simp <;> omega
/-- a row, or a pick -/
def mkK (g : Nat) (ts : List Tr) : Tr := if g = 100 then .row ts else .pick ts
def kd (g : Nat) : List Nat := if g = 100 then [114, 111, 119] else [112, 105, 99, 107]
theorem enc_mkK (g : Nat) (ts : List Tr) : enc (mkK g ts) = .tup [.str (kd g), .tup (encs ts)] := by
  unfold mkK kd; split <;> rfl
def Kg (g : Nat) : Prop := g = 100 ∨ g = 102
theorem tk_mkK {w : Wd} {bf : List Int → Nat} {g : Nat} (hg : Kg g) (ts : List Tr) (y : List Int) : (tk w bf (mkK g ts) y).ds = (al w bf g ts y 0 0).ds ∧ (tk w bf (mkK g ts) y).s = (al w bf g ts y 0 0).s := by
  rcases hg with e | e <;> subst e <;> simp [mkK, tk]
theorem nh_mkK {g : Nat} (ts : List Tr) (h : NoHolds ts) (h0 : ts ≠ []) : NoHold (mkK g ts) := by
  unfold mkK
  split <;> (simp only [NoHold]; exact ⟨h0, h⟩)
theorem dep_mkK (g : Nat) (ts : List Tr) : dep (mkK g ts) = deps ts + 2 := by unfold mkK; split <;> simp [dep]
theorem siz_mkK (g : Nat) (ts : List Tr) : siz (mkK g ts) = sizs ts + 1 := by unfold mkK; split <;> simp [siz]
theorem al_acts {w : Wd} {bf : List Int → Nat} {g : Nat} : ∀ (ds : List Nat) (y : List Int) (i sg : Nat), ds ≠ [] → (al w bf g (ds.map .act) y i 0).ds = (dueL w g sg ds).1 ∧ (al w bf g (ds.map .act) y i 0).s = (dueL w g sg ds).2
  | [c], y, i, sg, _ => by
    simp only [List.map_cons, List.map_nil, al, tk, dueL, ne_eq, not_true_eq_false, and_false, if_false]
    by_cases h : w.come c = g <;> simp [h]
  | c :: d :: r, y, i, sg, _ => by
    have ih := al_acts (w := w) (bf := bf) (g := g) (d :: r) y (i + 1) g (by simp)
    rw [List.map_cons, al, dueL]
    simp only [tk, List.map_cons, ne_eq, reduceCtorEq, not_false_eq_true, and_true]
    simp only [List.map_cons] at ih
    by_cases h : w.come c = g
    · rw [if_pos h, if_pos h]
      simp [ih.1, ih.2]
    · rw [if_neg h, if_neg h]
      exact ⟨rfl, rfl⟩
theorem turn_inj {a b : Nat} (ha : a = 100 ∨ a = 102 ∨ a = 103) (hb : b = 100 ∨ b = 102 ∨ b = 103) : turn a = turn b ↔ a = b := by
  rcases ha with e | e | e <;> rcases hb with f | f | f <;> subst e <;> subst f <;> decide
theorem turn_turn {a : Nat} (ha : a = 100 ∨ a = 102 ∨ a = 103) : turn (turn a) = a := by
  rcases ha with e | e | e <;> subst e <;> rfl
theorem al_nots {w : Wd} (hw : w.Ok) {bf : List Int → Nat} {g : Nat} (hg : Kg g) : ∀ (ds : List Nat) (y : List Int) (i sg : Nat), ds ≠ [] → (al w bf (turn g) (ds.map fun c => .inv (.act c)) y i 0).ds = (dueL w g sg ds).1 ∧ (al w bf (turn g) (ds.map fun c => .inv (.act c)) y i 0).s = turn (dueL w g sg ds).2
  | [c], y, i, sg, _ => by
    simp only [List.map_cons, List.map_nil, al, tk, dueL, ne_eq, not_true_eq_false, and_false, if_false]
    by_cases h : w.come c = g <;> simp [h]
  | c :: d :: r, y, i, sg, _ => by
    have ih := al_nots hw (bf := bf) hg (d :: r) y (i + 1) g (by simp)
    rw [List.map_cons, al, dueL]
    simp only [tk, List.map_cons, ne_eq, reduceCtorEq, not_false_eq_true, and_true]
    simp only [List.map_cons] at ih
    have ht := turn_inj (hw.come c) (b := g) (by unfold Kg at hg; omega)
    by_cases h : w.come c = g
    · rw [if_pos (ht.mpr h), if_pos h]
      simp [ih.1, ih.2]
    · rw [if_neg (fun e => h (ht.mp e)), if_neg h]
      exact ⟨rfl, rfl⟩
/-- a part of some leaves: the leaf, or a row of them -/
def mkF (g : Nat) : List Nat → Tr
  | [c] => .act c
  | ds => mkK g (ds.map .act)
theorem tk_mkF {w : Wd} {bf : List Int → Nat} {g : Nat} (hg : Kg g) (ds : List Nat) (y : List Int) (sg : Nat) (h : ds ≠ []) : (tk w bf (mkF g ds) y).ds = (dueL w g sg ds).1 ∧ (tk w bf (mkF g ds) y).s = (dueL w g sg ds).2 := by
  match ds, h with
  | [c], _ =>
    simp only [mkF, tk, dueL]
    by_cases h : w.come c = g <;> simp [h]
  | c :: d :: r, _ =>
    simp only [mkF]
    have h1 := tk_mkK (w := w) (bf := bf) hg ((c :: d :: r).map .act) y
    have h2 := al_acts (w := w) (bf := bf) (g := g) (c :: d :: r) y 0 sg (by simp)
    exact ⟨h1.1.trans h2.1, h1.2.trans h2.2⟩
/-- the letters of deeds -/
def Let (ds : List Nat) : Prop := ∀ c ∈ ds, c = 112 ∨ c = 113 ∨ c = 114
theorem nh_acts : ∀ {ds : List Nat}, Let ds → NoHolds (ds.map .act)
  | [], _ => trivial
  | c :: ds, h => by
    simp only [List.map_cons, NoHolds, NoHold]
    exact ⟨h c (.head _), nh_acts fun x hx => h x (.tail _ hx)⟩
theorem nh_nots : ∀ {ds : List Nat}, Let ds → NoHolds (ds.map fun c => .inv (.act c))
  | [], _ => trivial
  | c :: ds, h => by
    simp only [List.map_cons, NoHolds, NoHold]
    exact ⟨h c (.head _), nh_nots fun x hx => h x (.tail _ hx)⟩
theorem nh_mkF {g : Nat} {ds : List Nat} (h : Let ds) (h0 : ds ≠ []) : NoHold (mkF g ds) := by
  match ds, h0 with
  | [c], _ => simp only [mkF, NoHold]; exact h c (.head _)
  | c :: d :: r, _ => exact nh_mkK _ (nh_acts h) (by simp)
theorem deps_acts : ∀ ds : List Nat, deps (ds.map .act) ≤ 1
  | [] => by simp [deps]
  | c :: ds => by
    have := deps_acts ds
    simp only [List.map_cons, deps, dep]; omega
theorem deps_nots : ∀ ds : List Nat, deps (ds.map fun c => .inv (.act c)) ≤ 2
  | [] => by simp [deps]
  | c :: ds => by
    have := deps_nots ds
    simp only [List.map_cons, deps, dep]; omega
theorem sizs_acts : ∀ ds : List Nat, sizs (ds.map .act) = ds.length
  | [] => rfl
  | c :: ds => by
    have := sizs_acts ds
    simp only [List.map_cons, sizs, siz, List.length_cons, this]; omega
theorem sizs_nots : ∀ ds : List Nat, sizs (ds.map fun c => .inv (.act c)) = 2 * ds.length
  | [] => rfl
  | c :: ds => by
    have := sizs_nots ds
    simp only [List.map_cons, sizs, siz, List.length_cons, this]; omega
theorem dep_mkF (g : Nat) (ds : List Nat) : dep (mkF g ds) ≤ 3 ∧ siz (mkF g ds) ≤ ds.length + 1 := by
  match ds with
  | [] => simp [mkF, dep_mkK, siz_mkK, deps, sizs]
  | [c] => simp [mkF, dep, siz]
  | c :: d :: r =>
    have := deps_acts (c :: d :: r)
    have := sizs_acts (c :: d :: r)
    simp only [mkF, dep_mkK, siz_mkK]
    omega
/-- the tree tells, of every world, what is due -/
def Tells (t : Tr) (g : Nat) (ds : List Nat) : Prop := ∀ w : Wd, w.Ok → (tk w (bfOf []) t []).ds = (dueL w g 100 ds).1 ∧ (tk w (bfOf []) t []).s = (dueL w g 100 ds).2
theorem tells_1 {g : Nat} (hg : Kg g) {ds : List Nat} (h0 : ds ≠ []) : Tells (mkK g (ds.map .act)) g ds := fun w hw => by
  have h1 := tk_mkK (w := w) (bf := bfOf []) hg (ds.map .act) []
  have h2 := al_acts (w := w) (bf := bfOf []) (g := g) ds [] 0 100 h0
  exact ⟨h1.1.trans h2.1, h1.2.trans h2.2⟩
theorem kg_turn {g : Nat} (hg : Kg g) : Kg (turn g) := by
  rcases hg with e | e <;> subst e
  · exact .inr rfl
  · exact .inl rfl
theorem tells_2 {g : Nat} (hg : Kg g) {ds : List Nat} (h0 : ds ≠ []) : Tells (.inv (mkK (turn g) (ds.map fun c => .inv (.act c)))) g ds := fun w hw => by
  have h1 := tk_mkK (w := w) (bf := bfOf []) (kg_turn hg) (ds.map fun c => .inv (.act c)) [0]
  have h2 := al_nots hw (bf := bfOf []) hg ds [0] 0 100 h0
  simp only [tk, List.nil_append]
  refine ⟨h1.1.trans h2.1, ?_⟩
  rw [h1.2, h2.2, turn_turn (due_sign hw ds 100 (.inl rfl) hg)]
theorem tells_3 {g : Nat} (hg : Kg g) {a b : List Nat} (ha : a ≠ []) (hb : b ≠ []) : Tells (mkK g [mkF g a, mkF g b]) g (a ++ b) := fun w hw => by
  have h1 := tk_mkK (w := w) (bf := bfOf []) hg [mkF g a, mkF g b] []
  have h2 := tk_mkF (w := w) (bf := bfOf []) hg a ([] ++ [((0 : Nat) : Int)]) 100 ha
  have h3 := tk_mkF (w := w) (bf := bfOf []) hg b ([] ++ [((0 + 1 : Nat) : Int)]) g hb
  rw [h1.1, h1.2, due_app a 100 b ha]
  simp only [al, ne_eq, reduceCtorEq, not_false_eq_true, and_true, not_true_eq_false, and_false, if_false]
  rw [h2.1, h2.2, h3.1, h3.2]
  split <;> exact ⟨rfl, rfl⟩

/-! ### the law's own defs -/
theorem neS (x y : List Nat) (S : Sto) : cmpD .ne (.str x) (.str y) S = .ok (.bl (!(x == y))) S := rfl
def dueW : Ss := .cons (.set 5 (.bin .add (.var 5) (.var 3)))
    (.cons (.set 6 (.idx (.idx (.var 2) (.cst (D.int (1)))) (.bm .sindex (.cst (D.str [112, 113, 114])) (.cons (.var 3) (.nil)))))
    (.cons (.ite (.cmp .ne (.var 6) (.var 4)) (.cons (.brk)
    (.nil)) (.nil))
    (.nil)))
theorem o1 : PySem.Builtin.Str.occurrences ⟨[112, 113, 114].toArray⟩ ⟨[112].toArray⟩ 0 3 1 = [0] := by decide +kernel
theorem o2 : PySem.Builtin.Str.occurrences ⟨[112, 113, 114].toArray⟩ ⟨[113].toArray⟩ 0 3 1 = [1] := by decide +kernel
theorem o3 : PySem.Builtin.Str.occurrences ⟨[112, 113, 114].toArray⟩ ⟨[114].toArray⟩ 0 3 1 = [2] := by decide +kernel
theorem occ_at {c j : Nat} {S : Sto} (h : PySem.Builtin.Str.occurrences ⟨[112, 113, 114].toArray⟩ ⟨[c].toArray⟩ 0 3 1 = [j]) : bmD .sindex (.str [112, 113, 114]) [.str [c]] S = .ok (.int (j : Nat)) S := by
  show (match PySem.Builtin.Str.occurrences ⟨[112, 113, 114].toArray⟩ ⟨[c].toArray⟩ 0 [112, 113, 114].length 1 with | j :: _ => Res.ok (D.int j) S | [] => .bad) = _
  rw [show [112, 113, 114].length = 3 from rfl, h]
theorem come_ix (w : Wd) {c : Nat} (h : c = 112 ∨ c = 113 ∨ c = 114) : ∃ j : Int, ∀ S, bmD .sindex (.str [112, 113, 114]) [.str [c]] S = .ok (.int j) S ∧ idxD (.str [w.p, w.q, w.r]) (.int j) S = .ok (.str [w.come c]) S := by
  rcases h with e | e | e <;> subst e
  · exact ⟨0, fun S => ⟨occ_at o1, rfl⟩⟩
  · exact ⟨1, fun S => ⟨occ_at o2, rfl⟩⟩
  · exact ⟨2, fun S => ⟨occ_at o3, rfl⟩⟩
theorem due_loop {c : Calls} {w : Wd} {g : Nat} {x0 x1 : Option D} {S : Sto} : ∀ (ds done : List Nat) (sg : Nat) (x3 : Option D), Let ds → done.length + ds.length ≤ 1000 → ∃ x3', forD (fun σ S => evSs c dueW σ S) (.name 3) (signs ds) [x0, x1, some w.enc, x3, some (.str [g]), some (.str done), some (.str [sg])] S = .ok (.nx, [x0, x1, some w.enc, x3', some (.str [g]), some (.str (done ++ (dueL w g sg ds).1)), some (.str [(dueL w g sg ds).2])]) S
  | [], done, sg, x3, _, _ => ⟨x3, by simp [signs, forD, dueL]⟩
  | d :: ds, done, sg, x3, hl, hn => by
    simp only [List.length_cons] at hn
    obtain ⟨j, hj⟩ := come_ix w (hl d (.head _))
    have hadd : binD .add (.str done) (.str [d]) S = .ok (.str (done ++ [d])) S := by
      show okV (decide _) _ _ = _
      rw [decide_eq_true (by unfold sizeL; simp; omega), okV_t]
    have hb : evSs c dueW [x0, x1, some w.enc, some (.str [d]), some (.str [g]), some (.str done), some (.str [sg])] S = .ok (if w.come d = g then .nx else .brk, [x0, x1, some w.enc, some (.str [d]), some (.str [g]), some (.str (done ++ [d])), some (.str [w.come d])]) S := by
      unfold dueW
      have h1 := (hj S).1
      have h2 := (hj S).2
      simp only [evSs, evS, evE, evA, evT, evTq, evSr, evP, bok, List.getElem?_cons_zero, List.getElem?_cons_succ, List.set_cons_zero, List.set_cons_succ, okV_t, if_true, if_false, Bool.false_eq_true, setTg, setAll, eqS, eqI, ltI, addI, subI, wEnc0, wEnc1, lk0, lk1, lk2, lk3, cmp_isin, bltD, bLen, lenD, itemsD, Option.map_some, hadd, bmPre, isSD, h1, h2, neS]
      by_cases h : w.come d = g
      · rw [if_pos h]
        have : ([w.come d] == [g]) = true := by simp [h]
        rw [this]; rfl
      · rw [if_neg h]
        have : ([w.come d] == [g]) = false := by simp [h]
        rw [this]; rfl
    have hs : signs (d :: ds) = .str [d] :: signs ds := rfl
    rw [hs]
    by_cases h : w.come d = g
    · obtain ⟨x3', ih⟩ := due_loop (c := c) (w := w) (g := g) (x0 := x0) (x1 := x1) (S := S) ds (done ++ [d]) g (some (.str [d])) (fun x hx => hl x (.tail _ hx)) (by simp; omega)
      refine ⟨x3', ?_⟩
      rw [if_pos h] at hb
      simp only [forD, setTg, List.set_cons_zero, List.set_cons_succ, hb, bok]
      rw [h, ih]
      simp [dueL, h]
    · refine ⟨some (.str [d]), ?_⟩
      rw [if_neg h] at hb
      simp only [forD, setTg, List.set_cons_zero, List.set_cons_succ, hb, bok]
      simp [dueL, h]
def pairD (p : List Nat × Nat) : D := .tup [.str p.1, .str [p.2]]
theorem due_call {k : Nat} {w : Wd} {g : Nat} {ds : List Nat} {S : Sto} (hg : Kg g) (hl : Let ds) (hn : ds.length ≤ 1000) : callN fns (k + 1) 16 [.str (kd g), .lst (signs ds), w.enc] S = .ok (pairD (dueL w g 100 ds)) S := by
  obtain ⟨x3, h⟩ := due_loop (c := callN fns k) (w := w) (g := g) (x0 := some (.str (kd g))) (x1 := some (.lst (signs ds))) (S := S) ds [] 100 none hl (by simpa using hn)
  rw [call_at at_16 rfl]
  show (evSs (callN fns k) b_16 [some (.str (kd g)), some (.lst (signs ds)), some w.enc, none, none, none, none] S).bind _ = _
  have h1 : evS (callN fns k) (.par [4, 5, 6] (.cons (.ite (.cmp .eq (.var 0) (.cst (D.str [114, 111, 119]))) (.cst (D.str [100])) (.cst (D.str [102]))) (.cons (.cst (D.str [])) (.cons (.cst (D.str [100])) (.nil))))) [some (.str (kd g)), some (.lst (signs ds)), some w.enc, none, none, none, none] S = .ok (.nx, [some (.str (kd g)), some (.lst (signs ds)), some w.enc, none, some (.str [g]), some (.str []), some (.str [100])]) S := by
    rcases hg with e | e <;> subst e <;> rfl
  have h2 : evS (callN fns k) (.for (.seq (.var 1)) (.name 3) dueW) [some (.str (kd g)), some (.lst (signs ds)), some w.enc, none, some (.str [g]), some (.str []), some (.str [100])] S = .ok (.nx, [some (.str (kd g)), some (.lst (signs ds)), some w.enc, x3, some (.str [g]), some (.str ([] ++ (dueL w g 100 ds).1)), some (.str [(dueL w g 100 ds).2])]) S := by
    rw [evS]
    exact h
  unfold b_16
  unfold dueW at h2
  rw [ss_nx h1, ss_nx h2]
  rfl
theorem ix : Ix fns 2 3 4 1 11 6 5 8 := ⟨rfl, rfl, rfl, rfl, rfl, rfl, rfl, rfl⟩
theorem told_call {n : Nat} {t : Tr} {ws : List Wd} {g : Nat} {ds : List Nat} {S : Sto} (hd : dep t ≤ n + 1) (hd2 : dep t ≤ 900) (hs : siz t ≤ 900) (hw : ∀ w ∈ ws, w.Ok) (hn : NoHold t) (hl : ws.length ≤ 1000) (ht : Tells t g ds) :
    ∃ S', callN fns (n + 4) 17 [enc t, .tup (ws.map Wd.enc)] S = .ok (.lst (ws.map fun w => pairD (dueL w g 100 ds))) S' ∧ Pre S S' := by
  obtain ⟨S', h1, h2⟩ := run_ok ix (iR := 12) rfl (n := n) (S := S) hd hd2 hs hw (nh_run hn ws []) (by omega) (wd := .tup (ws.map Wd.enc)) rfl
  refine ⟨S', ?_, h2⟩
  rw [call_at at_17 rfl]
  show (evSs (callN fns (n + 3)) b_17 [some (enc t), some (.tup (ws.map Wd.enc)), none] S).bind _ = _
  have e : (runT t ws []).map toldD = ws.map fun w => .tup [w.enc, .str (dueL w g 100 ds).1, .str [(dueL w g 100 ds).2]] := by
    rw [nh_runT hn, List.map_map]
    refine List.map_congr_left fun w hw' => ?_
    have := ht w (hw w hw')
    simp only [Function.comp, toldD, this.1, this.2]
  rw [e] at h1
  have hc := comp_map (f := stepC (callN fns (n + 3)) (.name 2) .none (.sl (.var 2) (.some (.cst (D.int (1)))) .none) [2] [some (enc t), some (.tup (ws.map Wd.enc)), none]) (S := S') (g := fun d => match d with | .tup [_, b, c] => .tup [b, c] | d => d) (ws.map fun w => .tup [w.enc, .str (dueL w g 100 ds).1, .str [(dueL w g 100 ds).2]]) (by
    intro d hd
    obtain ⟨w, _, rfl⟩ := List.mem_map.mp hd
    exact step_n rfl rfl)
  rw [List.map_map] at hc
  have hf := comp_at (c := callN fns (n + 3)) (σ := [some (enc t), some (.tup (ws.map Wd.enc)), none]) (src := .seq (.call 12 (.cons (.var 0) (.cons (.var 1) (.nil))))) (S := S) (S1 := S') (by simp only [evSs, evS, evE, evA, evT, evTq, evSr, evP, bok, List.getElem?_cons_zero, List.getElem?_cons_succ, List.set_cons_zero, List.set_cons_succ, okV_t, if_true, if_false, Bool.false_eq_true, setTg, setAll, eqS, eqI, ltI, addI, subI, wEnc0, wEnc1, lk0, lk1, lk2, lk3, cmp_isin, bltD, bLen, lenD, itemsD, Option.map_some, h1, seqD]) hc (by simp; omega)
  unfold b_17
  simp only [evSs, evS, hf, bok]
  rfl
theorem eqDs_refl {α : Type} {f : α → D} (h : ∀ x, eqD (f x) (f x) = true) : ∀ xs : List α, eqDs (xs.map f) (xs.map f) = true
  | [] => rfl
  | x :: xs => by simp only [List.map_cons, eqDs, h x, eqDs_refl h xs]; rfl
theorem okDs_map {α : Type} {f : α → D} {n : Nat} : ∀ xs : List α, (∀ x ∈ xs, okD n (f x) = true) → okDs n (xs.map f) = true
  | [], _ => by simp [okDs]
  | x :: xs, h => by simp only [List.map_cons, okDs, h x (.head _), okDs_map xs (fun y hy => h y (.tail _ hy))]; rfl
theorem ne_same {ws : List Wd} {g : Nat} {ds : List Nat} {S : Sto} (hg : Kg g) (hl : Let ds) (hw : ∀ w ∈ ws, w.Ok) : cmpD .ne (.lst (ws.map fun w => pairD (dueL w g 100 ds))) (.lst (ws.map fun w => pairD (dueL w g 100 ds))) S = .ok (.bl false) S := by
  have h1 : eqD (.lst (ws.map fun w => pairD (dueL w g 100 ds))) (.lst (ws.map fun w => pairD (dueL w g 100 ds))) = true := by
    rw [eqD]
    exact eqDs_refl (fun w => by simp [pairD, eqD, eqDs]) ws
  have h2 : okD 64 (.lst (ws.map fun w => pairD (dueL w g 100 ds))) = true := by
    rw [okD]
    refine okDs_map ws fun w hw' => ?_
    have h3 : ((dueL w g 100 ds).1.all fun c => decide (c < 0x110000)) = true := by
      rw [List.all_eq_true]
      intro c hc
      have := hl c (due_mem ds 100 c hc)
      exact decide_eq_true (by omega)
    have h4 : ([(dueL w g 100 ds).2].all fun c => decide (c < 0x110000)) = true := by
      have := due_sign (hw w hw') ds 100 (g := g) (.inl rfl) hg
      simp only [List.all_cons, List.all_nil, Bool.and_true]
      exact decide_eq_true (by omega)
    simp only [pairD, okD, okDs, h3, h4]
    rfl
  show okV (eqT _ _) (D.bl (!eqD _ _)) S = _
  unfold eqT
  rw [h1, h2]
  simp [okV]
end K24

namespace K24
open Ev
def st3 : Sm := (.set 3 (.comp (.range1 (.bin .add (.cst (D.int (2))) (.call 13 (.cons (.var 0) (.cons (.var 1) (.cons (.cst (D.int (6))) (.nil))))))) (.name 14) .none (.call 14 (.cons (.var 0) (.cons (.var 1) (.cons (.cst (D.str [112, 113, 114])) (.nil))))) [14]))
def st4 : Sm := (.set 4 (.call 14 (.cons (.var 0) (.cons (.var 1) (.cons (.lst (.cons (.cst (D.str [114, 111, 119])) (.cons (.cst (D.str [112, 105, 99, 107])) (.nil)))) (.nil))))))
def st5 : Sm := (.set 5 (.ite (.cmp .eq (.var 4) (.cst (D.str [114, 111, 119]))) (.cst (D.str [112, 105, 99, 107])) (.cst (D.str [114, 111, 119]))))
def st6 : Sm := (.set 6 (.blt .tuple (.cons (.comp (.seq (.var 3)) (.name 16) .none (.tup (.cons (.cst (D.str [100, 111])) (.cons (.var 16) (.nil)))) [16]) (.nil))))
def st7 : Sm := (.set 7 (.blt .tuple (.cons (.comp (.range1 (.cst (D.int (6)))) (.name 14) .none (.call 15 (.cons (.var 0) (.cons (.var 1) (.nil)))) [14]) (.nil))))
def st8 : Sm := (.set 8 (.comp (.seq (.var 7)) (.name 15) .none (.call 16 (.cons (.var 4) (.cons (.var 3) (.cons (.var 15) (.nil))))) [15]))
def st9 : Sm := (.set 9 (.tup (.cons (.cst (D.str [110, 111, 116])) (.cons (.tup (.cons (.var 5) (.cons (.blt .tuple (.cons (.comp (.seq (.var 6)) (.name 17) .none (.tup (.cons (.cst (D.str [110, 111, 116])) (.cons (.var 17) (.nil)))) [17]) (.nil))) (.nil)))) (.nil)))))
def st10 : Sm := (.set 10 (.bin .add (.cst (D.int (1))) (.call 13 (.cons (.var 0) (.cons (.var 1) (.cons (.bin .sub (.blt .len (.cons (.var 6) (.nil))) (.cst (D.int (1)))) (.nil)))))))
def st11 : Sm := (.set 11 (.ite (.cmp .gt (.var 10) (.cst (D.int (1)))) (.tup (.cons (.var 4) (.cons (.sl (.var 6) .none (.some (.var 10))) (.nil)))) (.idx (.var 6) (.cst (D.int (0))))))
def st12 : Sm := (.set 12 (.ite (.cmp .lt (.var 10) (.bin .sub (.blt .len (.cons (.var 6) (.nil))) (.cst (D.int (1))))) (.tup (.cons (.var 4) (.cons (.sl (.var 6) (.some (.var 10)) .none) (.nil)))) (.idx (.var 6) (.neg (.cst (D.int (1)))))))
def st13 : Sm := (.for (.seq (.tup (.cons (.tup (.cons (.var 4) (.cons (.var 6) (.nil)))) (.cons (.var 9) (.cons (.tup (.cons (.var 4) (.cons (.tup (.cons (.var 11) (.cons (.var 12) (.nil)))) (.nil)))) (.nil)))))) (.name 13) (.cons (.ite (.cmp .ne (.call 17 (.cons (.var 13) (.cons (.var 7) (.nil)))) (.var 8)) (.cons (.ret (.cst (D.bl false))) (.nil)) (.nil)) (.nil)))
def lb : Ss := (.cons st3 (.cons st4 (.cons st5 (.cons st6 (.cons st7 (.cons st8 (.cons st9 (.cons st10 (.cons st11 (.cons st12 (.cons st13 (.nil))))))))))))
theorem b18_eq : b_18 = .cons (.set 1 (.newl)) (.cons (.for (.range1 (.cst (D.int (8)))) (.name 2) lb) (.cons (.ret (.cst (D.bl true))) .nil)) := rfl
section
variable {m : Nat} {ns : List Int} {x2 x3 x4 x5 x6 x7 x8 x9 x10 x11 x12 x13 x14 x15 x16 x17 : Option D}
theorem d13 : fns[13]? = some drawF := rfl
theorem d14 : fns[14]? = some (pickF 13) := rfl
theorem d15 : fns[15]? = some (worldF 13 14) := rfl
theorem range1_at {c : Calls} {e : Ex} {σ : Nv} {S S1 : Sto} {j : Int} (h : evE c e σ S = .ok (.int j) S1) (hz : smallI j = true) : evSr c (.range1 e) σ S = .ok (rangeD 0 j.toNat) S1 := by
  rw [evSr, h]
  show okV (smallI j) _ _ = _
  rw [hz]; rfl
theorem small_2 {r : Nat} (h : (r : Int) < 6) : smallI (2 + (r : Int)) = true := by
  unfold smallI
  rw [decide_eq_true (by omega), decide_eq_true (by omega)]; rfl
theorem s3 {S : Sto} {n : Nat} (hT : T 0 S n) (hn : n ≤ 900000) : ∃ ds S', evS (callN fns (m + 4)) st3 [some (.lst (ns.map .int)), some (.obj 0), x2, x3, x4, x5, x6, x7, x8, x9, x10, x11, x12, x13, x14, x15, x16, x17] S = .ok (.nx, [some (.lst (ns.map .int)), some (.obj 0), x2, some (.lst (signs ds)), x4, x5, x6, x7, x8, x9, x10, x11, x12, x13, x14, x15, x16, x17]) S' ∧ Let ds ∧ 2 ≤ ds.length ∧ ds.length ≤ 7 ∧ T 0 S' (n + 8) := by
  obtain ⟨r, S1, a1, a2, a3, a4⟩ := draw_ok' d13 (m + 3) ns hT (by omega) (m := 6) (by decide)
  obtain ⟨vs, S2, b1, b2, b3, b4⟩ := comp_draw (f := stepC (callN fns (m + 4)) (.name 14) .none (.call 14 (.cons (.var 0) (.cons (.var 1) (.cons (.cst (D.str [112, 113, 114])) (.nil))))) [14] [some (.lst (ns.map .int)), some (.obj 0), x2, x3, x4, x5, x6, x7, x8, x9, x10, x11, x12, x13, x14, x15, x16, x17])
      (I := fun m S' => T 0 S' m) (P := fun v => ∃ c, (c = 112 ∨ c = 113 ∨ c = 114) ∧ v = .str [c]) (k := 1) (by omega) (rangeD 0 (2 + (r : Int)).toNat) (n + 1) S1 a3 (by
    intro d hd m' S2 hI hm
    rw [rngD_len] at hm
    obtain ⟨c, S3, b1, b2, b3, b4⟩ := pick_str d13 d14 (m + 2) ns (s := [112, 113, 114]) hI (by omega) (by decide) (by decide)
    refine ⟨.str [c], S3, step_n rfl ?_, ⟨c, by simp at b2; omega, rfl⟩, b3⟩
    simp only [evSs, evS, evE, evA, evT, evTq, evSr, evP, bok, List.getElem?_cons_zero, List.getElem?_cons_succ, List.set_cons_zero, List.set_cons_succ, okV_t, if_true, if_false, Bool.false_eq_true, setTg, setAll, eqS, eqI, ltI, addI, subI, wEnc0, wEnc1, lk0, lk1, lk2, lk3, cmp_isin, bltD, bLen, lenD, itemsD, Option.map_some, wipeN, b1])
  obtain ⟨ds, e3, e4⟩ := signs_of b3
  subst e3
  rw [rngD_len] at b2 b4
  have l2 : ds.length = (2 + (r : Int)).toNat := by simpa [signs] using b2
  have z : smallI (2 + (r : Int)) = true := small_2 a2
  have hq : evE (callN fns (m + 4)) (.bin .add (.cst (D.int (2))) (.call 13 (.cons (.var 0) (.cons (.var 1) (.cons (.cst (D.int (6))) (.nil)))))) [some (.lst (ns.map .int)), some (.obj 0), x2, x3, x4, x5, x6, x7, x8, x9, x10, x11, x12, x13, x14, x15, x16, x17] S = .ok (.int (2 + (r : Int))) S1 := by
    simp only [evSs, evS, evE, evA, evT, evTq, evSr, evP, bok, List.getElem?_cons_zero, List.getElem?_cons_succ, List.set_cons_zero, List.set_cons_succ, okV_t, if_true, if_false, Bool.false_eq_true, setTg, setAll, eqS, eqI, ltI, addI, subI, wEnc0, wEnc1, lk0, lk1, lk2, lk3, cmp_isin, bltD, bLen, lenD, itemsD, Option.map_some, a1]
  have hf := comp_at (c := callN fns (m + 4)) (σ := [some (.lst (ns.map .int)), some (.obj 0), x2, x3, x4, x5, x6, x7, x8, x9, x10, x11, x12, x13, x14, x15, x16, x17]) (src := .range1 (.bin .add (.cst (D.int (2))) (.call 13 (.cons (.var 0) (.cons (.var 1) (.cons (.cst (D.int (6))) (.nil))))))) (S := S) (S1 := S1) (range1_at hq z) b1 (by omega)
  refine ⟨ds, S2, ?_, e4, by omega, by omega, T.mono b4 (by omega)⟩
  unfold st3
  rw [evS, hf]
  rfl
theorem s4 {S : Sto} {n : Nat} (hT : T 0 S n) (hn : n ≤ 900000) : ∃ g S', evS (callN fns (m + 4)) st4 [some (.lst (ns.map .int)), some (.obj 0), x2, x3, x4, x5, x6, x7, x8, x9, x10, x11, x12, x13, x14, x15, x16, x17] S = .ok (.nx, [some (.lst (ns.map .int)), some (.obj 0), x2, x3, some (.str (kd g)), x5, x6, x7, x8, x9, x10, x11, x12, x13, x14, x15, x16, x17]) S' ∧ Kg g ∧ T 0 S' (n + 1) := by
  obtain ⟨c, S1, a1, a2, a3, a4⟩ := pick_lst d13 d14 (m + 2) ns (s := [.str [114, 111, 119], .str [112, 105, 99, 107]]) hT (by omega) (by decide)
  have z2 : ∀ a b : D, decide ([a, b].length ≤ sizeL) = true := fun _ _ => rfl
  have hc : ∃ g, Kg g ∧ c = .str (kd g) := by
    simp only [List.mem_cons, List.not_mem_nil, or_false] at a2
    rcases a2 with e | e <;> subst e
    · exact ⟨100, .inl rfl, rfl⟩
    · exact ⟨102, .inr rfl, rfl⟩
  obtain ⟨g, hg, rfl⟩ := hc
  refine ⟨g, S1, ?_, hg, a3⟩
  unfold st4
  simp only [evSs, evS, evE, evA, evT, evTq, evSr, evP, bok, List.getElem?_cons_zero, List.getElem?_cons_succ, List.set_cons_zero, List.set_cons_succ, okV_t, if_true, if_false, Bool.false_eq_true, setTg, setAll, eqS, eqI, ltI, addI, subI, wEnc0, wEnc1, lk0, lk1, lk2, lk3, cmp_isin, bltD, bLen, lenD, itemsD, Option.map_some, z2, a1]
theorem s5 {S : Sto} {g : Nat} (hg : Kg g) : evS (callN fns (m + 4)) st5 [some (.lst (ns.map .int)), some (.obj 0), x2, x3, some (.str (kd g)), x5, x6, x7, x8, x9, x10, x11, x12, x13, x14, x15, x16, x17] S = .ok (.nx, [some (.lst (ns.map .int)), some (.obj 0), x2, x3, some (.str (kd g)), some (.str (kd (turn g))), x6, x7, x8, x9, x10, x11, x12, x13, x14, x15, x16, x17]) S := by
  rcases hg with e | e <;> subst e <;> rfl
theorem s6 {S : Sto} {ds : List Nat} (hl : ds.length ≤ 100) : evS (callN fns (m + 4)) st6 [some (.lst (ns.map .int)), some (.obj 0), x2, some (.lst (signs ds)), x4, x5, x6, x7, x8, x9, x10, x11, x12, x13, x14, x15, x16, x17] S = .ok (.nx, [some (.lst (ns.map .int)), some (.obj 0), x2, some (.lst (signs ds)), x4, x5, some (.tup (encs (ds.map .act))), x7, x8, x9, x10, x11, x12, x13, x14, x15, x16, x17]) S := by
  have hc := comp_map (f := stepC (callN fns (m + 4)) (.name 16) .none (.tup (.cons (.cst (D.str [100, 111])) (.cons (.var 16) (.nil)))) [16] [some (.lst (ns.map .int)), some (.obj 0), x2, some (.lst (signs ds)), x4, x5, x6, x7, x8, x9, x10, x11, x12, x13, x14, x15, x16, x17]) (S := S) (g := fun d => .tup [.str [100, 111], d]) (signs ds) (by
    intro d hd
    exact step_n rfl rfl)
  have hf := comp_at (c := callN fns (m + 4)) (σ := [some (.lst (ns.map .int)), some (.obj 0), x2, some (.lst (signs ds)), x4, x5, x6, x7, x8, x9, x10, x11, x12, x13, x14, x15, x16, x17]) (src := .seq (.var 3)) (S := S) (S1 := S) rfl hc (by simp [signs]; omega)
  have e : (signs ds).map (fun d => D.tup [.str [100, 111], d]) = encs (ds.map .act) := by
    rw [encs_eq]; simp [signs, enc]
  rw [e] at hf
  unfold st6
  rw [evS, evE, evA, hf]
  rfl
theorem wds_of : ∀ {vs : List D}, (∀ v ∈ vs, ∃ w : Wd, w.Fine ∧ v = w.enc) → ∃ ws : List Wd, vs = ws.map Wd.enc ∧ ∀ w ∈ ws, w.Fine
  | [], _ => ⟨[], rfl, nofun⟩
  | v :: vs, h => by
    obtain ⟨c, h1, h2⟩ := h v (.head _)
    obtain ⟨cs, h3, h4⟩ := wds_of (vs := vs) (fun x hx => h x (.tail _ hx))
    refine ⟨c :: cs, by rw [h2, h3]; rfl, fun x hx => ?_⟩
    rcases List.mem_cons.mp hx with e | hx
    · subst e; exact h1
    · exact h4 x hx
theorem s7 {S : Sto} {n : Nat} (hT : T 0 S n) (hn : n ≤ 900000) : ∃ (ws : List Wd) (S' : Sto), evS (callN fns (m + 4)) st7 [some (.lst (ns.map .int)), some (.obj 0), x2, x3, x4, x5, x6, x7, x8, x9, x10, x11, x12, x13, x14, x15, x16, x17] S = .ok (.nx, [some (.lst (ns.map .int)), some (.obj 0), x2, x3, x4, x5, x6, some (.tup (ws.map Wd.enc)), x8, x9, x10, x11, x12, x13, x14, x15, x16, x17]) S' ∧ (∀ w ∈ ws, w.Fine) ∧ ws.length = 6 ∧ T 0 S' (n + 36) := by
  obtain ⟨vs, S2, b1, b2, b3, b4⟩ := comp_draw (f := stepC (callN fns (m + 4)) (.name 14) .none (.call 15 (.cons (.var 0) (.cons (.var 1) (.nil)))) [14] [some (.lst (ns.map .int)), some (.obj 0), x2, x3, x4, x5, x6, x7, x8, x9, x10, x11, x12, x13, x14, x15, x16, x17])
      (I := fun m S' => T 0 S' m) (P := fun v => ∃ w : Wd, w.Fine ∧ v = w.enc) (k := 6) (by omega) (rangeD 0 6) n S hT (by
    intro d hd m' S2 hI hm
    rw [rngD_len] at hm
    obtain ⟨w, S3, b1, b2, b3, b4⟩ := world_ok d13 d14 d15 (m + 1) ns hI (by omega)
    refine ⟨w.enc, S3, step_n rfl ?_, ⟨w, b2, rfl⟩, b3⟩
    simp only [evSs, evS, evE, evA, evT, evTq, evSr, evP, bok, List.getElem?_cons_zero, List.getElem?_cons_succ, List.set_cons_zero, List.set_cons_succ, okV_t, if_true, if_false, Bool.false_eq_true, setTg, setAll, eqS, eqI, ltI, addI, subI, wEnc0, wEnc1, lk0, lk1, lk2, lk3, cmp_isin, bltD, bLen, lenD, itemsD, Option.map_some, wipeN, b1])
  obtain ⟨ws, e3, e4⟩ := wds_of b3
  subst e3
  rw [rngD_len] at b2 b4
  have l2 : ws.length = 6 := by simpa using b2
  have hf := comp_at (c := callN fns (m + 4)) (σ := [some (.lst (ns.map .int)), some (.obj 0), x2, x3, x4, x5, x6, x7, x8, x9, x10, x11, x12, x13, x14, x15, x16, x17]) (src := .range1 (.cst (D.int 6))) (S := S) (S1 := S) rfl b1 (by simp; omega)
  refine ⟨ws, S2, ?_, e4, l2, b4⟩
  unfold st7
  rw [evS, evE, evA, hf]
  rfl
theorem s8 {S : Sto} {g : Nat} {ds : List Nat} {ws : List Wd} (hg : Kg g) (hl : Let ds) (hn : ds.length ≤ 100) (hw : ws.length ≤ 100) : evS (callN fns (m + 4)) st8 [some (.lst (ns.map .int)), some (.obj 0), x2, some (.lst (signs ds)), some (.str (kd g)), x5, x6, some (.tup (ws.map Wd.enc)), x8, x9, x10, x11, x12, x13, x14, x15, x16, x17] S = .ok (.nx, [some (.lst (ns.map .int)), some (.obj 0), x2, some (.lst (signs ds)), some (.str (kd g)), x5, x6, some (.tup (ws.map Wd.enc)), some (.lst (ws.map fun w => pairD (dueL w g 100 ds))), x9, x10, x11, x12, x13, x14, x15, x16, x17]) S := by
  have hc : compD (stepC (callN fns (m + 4)) (.name 15) .none (.call 16 (.cons (.var 4) (.cons (.var 3) (.cons (.var 15) (.nil))))) [15] [some (.lst (ns.map .int)), some (.obj 0), x2, some (.lst (signs ds)), some (.str (kd g)), x5, x6, some (.tup (ws.map Wd.enc)), x8, x9, x10, x11, x12, x13, x14, x15, x16, x17]) (ws.map Wd.enc) S = .ok (ws.map fun w => pairD (dueL w g 100 ds)) S := by
    suffices h : ∀ us : List Wd, compD (stepC (callN fns (m + 4)) (.name 15) .none (.call 16 (.cons (.var 4) (.cons (.var 3) (.cons (.var 15) (.nil))))) [15] [some (.lst (ns.map .int)), some (.obj 0), x2, some (.lst (signs ds)), some (.str (kd g)), x5, x6, some (.tup (ws.map Wd.enc)), x8, x9, x10, x11, x12, x13, x14, x15, x16, x17]) (us.map Wd.enc) S = .ok (us.map fun w => pairD (dueL w g 100 ds)) S from h ws
    intro us
    induction us with
    | nil => rfl
    | cons w us ih =>
      have hd := due_call (k := m + 3) (w := w) (g := g) (ds := ds) (S := S) hg hl (by omega)
      have h1 : stepC (callN fns (m + 4)) (.name 15) .none (.call 16 (.cons (.var 4) (.cons (.var 3) (.cons (.var 15) (.nil))))) [15] [some (.lst (ns.map .int)), some (.obj 0), x2, some (.lst (signs ds)), some (.str (kd g)), x5, x6, some (.tup (ws.map Wd.enc)), x8, x9, x10, x11, x12, x13, x14, x15, x16, x17] w.enc S = .ok (some (pairD (dueL w g 100 ds))) S := by
        refine step_n rfl ?_
        simp only [evSs, evS, evE, evA, evT, evTq, evSr, evP, bok, List.getElem?_cons_zero, List.getElem?_cons_succ, List.set_cons_zero, List.set_cons_succ, okV_t, if_true, if_false, Bool.false_eq_true, setTg, setAll, eqS, eqI, ltI, addI, subI, wEnc0, wEnc1, lk0, lk1, lk2, lk3, cmp_isin, bltD, bLen, lenD, itemsD, Option.map_some, wipeN, hd]
      simp only [List.map_cons, compD, h1, bok, ih]
      rfl
  have hf := comp_at (c := callN fns (m + 4)) (σ := [some (.lst (ns.map .int)), some (.obj 0), x2, some (.lst (signs ds)), some (.str (kd g)), x5, x6, some (.tup (ws.map Wd.enc)), x8, x9, x10, x11, x12, x13, x14, x15, x16, x17]) (src := .seq (.var 7)) (S := S) (S1 := S) rfl hc (by simp; omega)
  unfold st8
  rw [evS, hf]
  rfl
theorem s9 {S : Sto} {g : Nat} {ds : List Nat} (hl : ds.length ≤ 100) : evS (callN fns (m + 4)) st9 [some (.lst (ns.map .int)), some (.obj 0), x2, x3, x4, some (.str (kd (turn g))), some (.tup (encs (ds.map .act))), x7, x8, x9, x10, x11, x12, x13, x14, x15, x16, x17] S = .ok (.nx, [some (.lst (ns.map .int)), some (.obj 0), x2, x3, x4, some (.str (kd (turn g))), some (.tup (encs (ds.map .act))), x7, x8, some (enc (.inv (mkK (turn g) (ds.map fun c => .inv (.act c))))), x10, x11, x12, x13, x14, x15, x16, x17]) S := by
  have hc := comp_map (f := stepC (callN fns (m + 4)) (.name 17) .none (.tup (.cons (.cst (D.str [110, 111, 116])) (.cons (.var 17) (.nil)))) [17] [some (.lst (ns.map .int)), some (.obj 0), x2, x3, x4, some (.str (kd (turn g))), some (.tup (encs (ds.map .act))), x7, x8, x9, x10, x11, x12, x13, x14, x15, x16, x17]) (S := S) (g := fun d => .tup [.str [110, 111, 116], d]) (encs (ds.map .act)) (by
    intro d hd
    exact step_n rfl rfl)
  have hf := comp_at (c := callN fns (m + 4)) (σ := [some (.lst (ns.map .int)), some (.obj 0), x2, x3, x4, some (.str (kd (turn g))), some (.tup (encs (ds.map .act))), x7, x8, x9, x10, x11, x12, x13, x14, x15, x16, x17]) (src := .seq (.var 6)) (S := S) (S1 := S) rfl hc (by simp [encs_eq]; omega)
  have e : (encs (ds.map .act)).map (fun d => D.tup [.str [110, 111, 116], d]) = encs (ds.map fun c => .inv (.act c)) := by
    rw [encs_eq, encs_eq]; simp [enc]
  rw [e] at hf
  have hb : evE (callN fns (m + 4)) (.blt .tuple (.cons (.comp (.seq (.var 6)) (.name 17) .none (.tup (.cons (.cst (D.str [110, 111, 116])) (.cons (.var 17) (.nil)))) [17]) (.nil))) [some (.lst (ns.map .int)), some (.obj 0), x2, x3, x4, some (.str (kd (turn g))), some (.tup (encs (ds.map .act))), x7, x8, x9, x10, x11, x12, x13, x14, x15, x16, x17] S = .ok (.tup (encs (ds.map fun c => .inv (.act c)))) S := by
    rw [evE, evA, hf]; rfl
  have z2 : ∀ a b : D, decide ([a, b].length ≤ sizeL) = true := fun _ _ => rfl
  unfold st9
  simp only [evS, evE.eq_def (callN fns (m + 4)) (.tup _), evA, hb, bok, evE.eq_def (callN fns (m + 4)) (.cst _), evE.eq_def (callN fns (m + 4)) (.var _), List.getElem?_cons_zero, List.getElem?_cons_succ, z2, okV_t, enc, enc_mkK, List.set_cons_zero, List.set_cons_succ]
theorem s10 {S : Sto} {n : Nat} {ds : List Nat} (h2 : 2 ≤ ds.length) (hT : T 0 S n) (hn : n ≤ 900000) : ∃ a S', evS (callN fns (m + 4)) st10 [some (.lst (ns.map .int)), some (.obj 0), x2, x3, x4, x5, some (.tup (encs (ds.map .act))), x7, x8, x9, x10, x11, x12, x13, x14, x15, x16, x17] S = .ok (.nx, [some (.lst (ns.map .int)), some (.obj 0), x2, x3, x4, x5, some (.tup (encs (ds.map .act))), x7, x8, x9, some (.int (a : Nat)), x11, x12, x13, x14, x15, x16, x17]) S' ∧ 1 ≤ a ∧ a < ds.length ∧ T 0 S' (n + 1) := by
  have hl : (encs (ds.map .act)).length = ds.length := by rw [encs_eq]; simp
  obtain ⟨r, S1, a1, a2, a3, a4⟩ := draw_ok' d13 (m + 3) ns hT (by omega) (m := ((encs (ds.map .act)).length : Nat) - 1) (by omega)
  refine ⟨r + 1, S1, ?_, by omega, by omega, a3⟩
  unfold st10
  simp only [evSs, evS, evE, evA, evT, evTq, evSr, evP, bok, List.getElem?_cons_zero, List.getElem?_cons_succ, List.set_cons_zero, List.set_cons_succ, okV_t, if_true, if_false, Bool.false_eq_true, setTg, setAll, eqS, eqI, ltI, addI, subI, wEnc0, wEnc1, lk0, lk1, lk2, lk3, cmp_isin, bltD, bLen, lenD, itemsD, Option.map_some, a1]
  rw [show (1 : Int) + (r : Nat) = ((r + 1 : Nat) : Int) by omega]
theorem cut_lo {xs : List D} {a : Nat} (h : a ≤ xs.length) : cutD xs none (some (a : Int)) = xs.take a := by
  unfold cutD sIxD
  simp only [show ¬ ((a : Int) < 0) by omega, if_false, Int.toNat_natCast, List.drop_zero, Nat.sub_zero]
  rw [Nat.min_eq_left h]
theorem cut_hi {xs : List D} {a : Nat} (h : a ≤ xs.length) : cutD xs (some (a : Int)) none = xs.drop a := by
  unfold cutD sIxD
  simp only [show ¬ ((a : Int) < 0) by omega, if_false, Int.toNat_natCast]
  rw [Nat.min_eq_left h]
  exact List.take_of_length_le (by simp)
theorem sl_lo {xs : List D} {a : Nat} (h : a < xs.length) (S : Sto) : slD (.tup xs) none (some (a : Int)) S = .ok (.tup (xs.take a)) S := by
  have h1 : sIxD xs.length xs.length (some (a : Int)) = a := by
    unfold sIxD
    simp only [show ¬ ((a : Int) < 0) by omega, if_false, Int.toNat_natCast]
    omega
  show okV (!(decide (sIxD xs.length 0 none = 0) && decide (sIxD xs.length xs.length (some (a : Int)) = xs.length))) _ S = _
  rw [h1, decide_eq_false (show ¬ a = xs.length by omega), Bool.and_false, cut_lo (by omega)]
  rfl
theorem sl_hi {xs : List D} {a : Nat} (h : a ≤ xs.length) (h1 : 1 ≤ a) (S : Sto) : slD (.tup xs) (some (a : Int)) none S = .ok (.tup (xs.drop a)) S := by
  have h2 : sIxD xs.length 0 (some (a : Int)) = a := by
    unfold sIxD
    simp only [show ¬ ((a : Int) < 0) by omega, if_false, Int.toNat_natCast]
    omega
  show okV (!(decide (sIxD xs.length 0 (some (a : Int)) = 0) && decide (sIxD xs.length xs.length none = xs.length))) _ S = _
  rw [h2, decide_eq_false (show ¬ a = 0 by omega), Bool.false_and, cut_hi h]
  rfl
theorem enc_mkF {g : Nat} {ds : List Nat} (h : 2 ≤ ds.length) : enc (mkF g ds) = .tup [.str (kd g), .tup (encs (ds.map .act))] := by
  match ds, h with
  | c :: d :: r, _ => simp only [mkF, enc_mkK]
theorem gtI (x y : Int) (S : Sto) : cmpD .gt (.int x) (.int y) S = .ok (.bl (decide (y < x))) S := rfl
theorem encs_len (ts : List Tr) : (encs ts).length = ts.length := by rw [encs_eq, List.length_map]
theorem s11 {S : Sto} {g a : Nat} {ds : List Nat} (h1 : 1 ≤ a) (h2 : a < ds.length) : evS (callN fns (m + 4)) st11 [some (.lst (ns.map .int)), some (.obj 0), x2, x3, some (.str (kd g)), x5, some (.tup (encs (ds.map .act))), x7, x8, x9, some (.int (a : Nat)), x11, x12, x13, x14, x15, x16, x17] S = .ok (.nx, [some (.lst (ns.map .int)), some (.obj 0), x2, x3, some (.str (kd g)), x5, some (.tup (encs (ds.map .act))), x7, x8, x9, some (.int (a : Nat)), some (enc (mkF g (ds.take a))), x12, x13, x14, x15, x16, x17]) S := by
  have z2 : ∀ a b : D, decide ([a, b].length ≤ sizeL) = true := fun _ _ => rfl
  have hs := sl_lo (xs := encs (ds.map .act)) (a := a) (by rw [encs_len]; simpa using h2) S
  unfold st11
  by_cases h : 1 < a
  · have hb : decide ((1 : Int) < ((a : Nat) : Int)) = true := decide_eq_true (by omega)
    have e : (encs (ds.map .act)).take a = encs ((ds.take a).map .act) := by rw [encs_eq, encs_eq]; simp [List.map_take]
    rw [enc_mkF (by simp; omega), ← e]
    simp only [evSs, evS, evE, evA, evT, evTq, evSr, evP, bok, List.getElem?_cons_zero, List.getElem?_cons_succ, List.set_cons_zero, List.set_cons_succ, okV_t, if_true, if_false, Bool.false_eq_true, setTg, setAll, eqS, eqI, ltI, addI, subI, wEnc0, wEnc1, lk0, lk1, lk2, lk3, cmp_isin, bltD, bLen, lenD, itemsD, Option.map_some, gtI, hb, hs, z2]
  · have ha : a = 1 := by omega
    subst ha
    have hb : decide ((1 : Int) < ((1 : Nat) : Int)) = false := rfl
    have hd : ds.take 1 = [ds[0]] := by
      match ds, h2 with
      | c :: d :: r, _ => rfl
    have hi : idxD (.tup (encs (ds.map .act))) (.int 0) S = .ok (enc (.act ds[0])) S := by
      show (match (ixD (encs (ds.map .act)).length 0).bind fun i => (encs (ds.map .act))[i]? with | some v => Res.ok v S | none => .bad) = _
      unfold ixD
      rw [if_pos (by decide), if_pos (by rw [encs_len]; simp; omega), encs_eq]
      simp [List.getElem?_eq_getElem (show 0 < ds.length by omega)]
    rw [hd]
    simp only [evSs, evS, evE, evA, evT, evTq, evSr, evP, bok, List.getElem?_cons_zero, List.getElem?_cons_succ, List.set_cons_zero, List.set_cons_succ, okV_t, if_true, if_false, Bool.false_eq_true, setTg, setAll, eqS, eqI, ltI, addI, subI, wEnc0, wEnc1, lk0, lk1, lk2, lk3, cmp_isin, bltD, bLen, lenD, itemsD, Option.map_some, gtI, hb, hi]
    rfl
theorem s12 {S : Sto} {g a : Nat} {ds : List Nat} (h1 : 1 ≤ a) (h2 : a < ds.length) : evS (callN fns (m + 4)) st12 [some (.lst (ns.map .int)), some (.obj 0), x2, x3, some (.str (kd g)), x5, some (.tup (encs (ds.map .act))), x7, x8, x9, some (.int (a : Nat)), x11, x12, x13, x14, x15, x16, x17] S = .ok (.nx, [some (.lst (ns.map .int)), some (.obj 0), x2, x3, some (.str (kd g)), x5, some (.tup (encs (ds.map .act))), x7, x8, x9, some (.int (a : Nat)), x11, some (enc (mkF g (ds.drop a))), x13, x14, x15, x16, x17]) S := by
  have z2 : ∀ a b : D, decide ([a, b].length ≤ sizeL) = true := fun _ _ => rfl
  have hs := sl_hi (xs := encs (ds.map .act)) (a := a) (by rw [encs_len]; simp; omega) h1 S
  have hl : (encs (ds.map .act)).length = ds.length := by rw [encs_len]; simp
  unfold st12
  by_cases h : a + 1 < ds.length
  · have hb : decide (((a : Nat) : Int) < ((encs (ds.map .act)).length : Nat) - 1) = true := decide_eq_true (by rw [hl]; omega)
    have e : (encs (ds.map .act)).drop a = encs ((ds.drop a).map .act) := by rw [encs_eq, encs_eq]; simp [List.map_drop]
    rw [enc_mkF (by simp; omega), ← e]
    simp only [evSs, evS, evE, evA, evT, evTq, evSr, evP, bok, List.getElem?_cons_zero, List.getElem?_cons_succ, List.set_cons_zero, List.set_cons_succ, okV_t, if_true, if_false, Bool.false_eq_true, setTg, setAll, eqS, eqI, ltI, addI, subI, wEnc0, wEnc1, lk0, lk1, lk2, lk3, cmp_isin, bltD, bLen, lenD, itemsD, Option.map_some, hb, hs, z2]
  · have hb : decide (((a : Nat) : Int) < ((encs (ds.map .act)).length : Nat) - 1) = false := decide_eq_false (by rw [hl]; omega)
    have hd : ds.drop a = [ds[a]] := by
      rw [List.drop_eq_getElem_cons h2, List.drop_eq_nil_iff.mpr (by omega)]
    have hi : idxD (.tup (encs (ds.map .act))) (.int (-1)) S = .ok (enc (.act ds[a])) S := by
      show (match (ixD (encs (ds.map .act)).length (-1)).bind fun i => (encs (ds.map .act))[i]? with | some v => Res.ok v S | none => .bad) = _
      unfold ixD
      rw [if_neg (by decide), if_pos (by rw [hl]; omega), hl, show (-1 + ((ds.length : Nat) : Int)).toNat = a by omega, encs_eq]
      simp [List.getElem?_eq_getElem h2]
    rw [hd]
    simp only [evSs, evS, evE, evA, evT, evTq, evSr, evP, bok, List.getElem?_cons_zero, List.getElem?_cons_succ, List.set_cons_zero, List.set_cons_succ, okV_t, if_true, if_false, Bool.false_eq_true, setTg, setAll, eqS, eqI, ltI, addI, subI, wEnc0, wEnc1, lk0, lk1, lk2, lk3, cmp_isin, bltD, bLen, lenD, itemsD, Option.map_some, hb, hi]
    rfl
theorem s13 {S : Sto} {n g a : Nat} {ds : List Nat} {ws : List Wd} (hm : 20 ≤ m) (hg : Kg g) (hl : Let ds) (h7 : ds.length ≤ 7) (h1 : 1 ≤ a) (h2 : a < ds.length) (hw : ∀ w ∈ ws, w.Ok) (hws : ws.length ≤ 100) (hT : T 0 S n) : ∃ x13' S', evS (callN fns (m + 4)) st13 [some (.lst (ns.map .int)), some (.obj 0), x2, x3, some (.str (kd g)), x5, some (.tup (encs (ds.map .act))), some (.tup (ws.map Wd.enc)), some (.lst (ws.map fun w => pairD (dueL w g 100 ds))), some (enc (.inv (mkK (turn g) (ds.map fun c => .inv (.act c))))), x10, some (enc (mkF g (ds.take a))), some (enc (mkF g (ds.drop a))), x13, x14, x15, x16, x17] S
    = .ok (.nx, [some (.lst (ns.map .int)), some (.obj 0), x2, x3, some (.str (kd g)), x5, some (.tup (encs (ds.map .act))), some (.tup (ws.map Wd.enc)), some (.lst (ws.map fun w => pairD (dueL w g 100 ds))), some (enc (.inv (mkK (turn g) (ds.map fun c => .inv (.act c))))), x10, some (enc (mkF g (ds.take a))), some (enc (mkF g (ds.drop a))), x13', x14, x15, x16, x17]) S' ∧ T 0 S' n := by
  have hds : ds ≠ [] := fun e => by simp [e] at h2
  have hta : ds.take a ≠ [] := fun e => by
    have := congrArg List.length e
    rw [List.length_take, List.length_nil] at this; omega
  have htd : ds.drop a ≠ [] := fun e => by
    have := congrArg List.length e
    rw [List.length_drop, List.length_nil] at this; omega
  have da := deps_acts ds
  have dn := deps_nots ds
  have sa := sizs_acts ds
  have sn := sizs_nots ds
  have l1 : Let (ds.take a) := fun c hc => hl c (List.mem_of_mem_take hc)
  have l2 : Let (ds.drop a) := fun c hc => hl c (List.mem_of_mem_drop hc)
  have f1 := dep_mkF g (ds.take a)
  have f2 := dep_mkF g (ds.drop a)
  have k1 : (ds.take a).length = a := by simp; omega
  have k2 : (ds.drop a).length = ds.length - a := by simp
  have hne := fun S => ne_same (S := S) hg hl hw
  -- one tree
  have one : ∀ (t : Tr) (S : Sto) (x : Option D), dep t ≤ 20 → siz t ≤ 100 → NoHold t → Tells t g ds → T 0 S n → ∃ S', T 0 S' n ∧ evSs (callN fns (m + 4)) (.cons (.ite (.cmp .ne (.call 17 (.cons (.var 13) (.cons (.var 7) (.nil)))) (.var 8)) (.cons (.ret (.cst (D.bl false))) (.nil)) (.nil)) (.nil)) [some (.lst (ns.map .int)), some (.obj 0), x2, x3, some (.str (kd g)), x5, some (.tup (encs (ds.map .act))), some (.tup (ws.map Wd.enc)), some (.lst (ws.map fun w => pairD (dueL w g 100 ds))), some (enc (.inv (mkK (turn g) (ds.map fun c => .inv (.act c))))), x10, some (enc (mkF g (ds.take a))), some (enc (mkF g (ds.drop a))), some (enc t), x14, x15, x16, x17] S
      = .ok (.nx, [some (.lst (ns.map .int)), some (.obj 0), x2, x3, some (.str (kd g)), x5, some (.tup (encs (ds.map .act))), some (.tup (ws.map Wd.enc)), some (.lst (ws.map fun w => pairD (dueL w g 100 ds))), some (enc (.inv (mkK (turn g) (ds.map fun c => .inv (.act c))))), x10, some (enc (mkF g (ds.take a))), some (enc (mkF g (ds.drop a))), some (enc t), x14, x15, x16, x17]) S' := by
    intro t S x hd hs hn ht hT
    obtain ⟨S', c1, c2⟩ := told_call (n := m) (S := S) (ws := ws) (g := g) (ds := ds) (by omega) (by omega) (by omega) hw hn (by omega) ht
    refine ⟨S', hT.pre c2, ?_⟩
    simp only [evSs, evS, evE, evA, evT, evTq, evSr, evP, bok, List.getElem?_cons_zero, List.getElem?_cons_succ, List.set_cons_zero, List.set_cons_succ, okV_t, if_true, if_false, Bool.false_eq_true, setTg, setAll, eqS, eqI, ltI, addI, subI, wEnc0, wEnc1, lk0, lk1, lk2, lk3, cmp_isin, bltD, bLen, lenD, itemsD, Option.map_some, c1, hne]
  obtain ⟨S1, t1, e1⟩ := one (mkK g (ds.map .act)) S none (by rw [dep_mkK]; omega) (by rw [siz_mkK]; omega) (nh_mkK _ (nh_acts hl) (by simpa using hds)) (tells_1 hg hds) hT
  obtain ⟨S2, t2, e2⟩ := one (.inv (mkK (turn g) (ds.map fun c => .inv (.act c)))) S1 none (by simp only [dep, dep_mkK]; omega) (by simp only [siz, siz_mkK]; omega) (by simp only [NoHold]; exact nh_mkK _ (nh_nots hl) (by simpa using hds)) (tells_2 hg hds) t1
  obtain ⟨S3, t3, e3⟩ := one (mkK g [mkF g (ds.take a), mkF g (ds.drop a)]) S2 none (by simp only [dep_mkK, deps]; omega) (by simp only [siz_mkK, sizs]; omega) (nh_mkK _ (by simp only [NoHolds]; exact ⟨nh_mkF l1 hta, nh_mkF l2 htd, trivial⟩) (by simp)) (by
    have := tells_3 hg hta htd
    rwa [List.take_append_drop] at this) t2
  refine ⟨some (enc (mkK g [mkF g (ds.take a), mkF g (ds.drop a)])), S3, ?_, t3⟩
  have q1 : D.tup [.str (kd g), .tup (encs (ds.map .act))] = enc (mkK g (ds.map .act)) := (enc_mkK _ _).symm
  have q3 : D.tup [.str (kd g), .tup [enc (mkF g (ds.take a)), enc (mkF g (ds.drop a))]] = enc (mkK g [mkF g (ds.take a), mkF g (ds.drop a)]) := by rw [enc_mkK]; rfl
  have z2 : ∀ a b : D, decide ([a, b].length ≤ sizeL) = true := fun _ _ => rfl
  have z3 : ∀ a b c : D, decide ([a, b, c].length ≤ sizeL) = true := fun _ _ _ => rfl
  unfold st13
  rw [evS]
  simp only [evSr, evE, evA, bok, List.getElem?_cons_zero, List.getElem?_cons_succ, z2, z3, okV_t, seqD, q1, q3]
  simp only [forD, setTg, List.set_cons_zero, List.set_cons_succ, e1, e2, e3, bok]
theorem lb_ok {S : Sto} {n : Nat} (hm : 20 ≤ m) (hT : T 0 S n) (hn : n ≤ 800000) : ∃ y3 y4 y5 y6 y7 y8 y9 y10 y11 y12 y13 S', evSs (callN fns (m + 4)) lb [some (.lst (ns.map .int)), some (.obj 0), x2, x3, x4, x5, x6, x7, x8, x9, x10, x11, x12, x13, x14, x15, x16, x17] S = .ok (.nx, [some (.lst (ns.map .int)), some (.obj 0), x2, y3, y4, y5, y6, y7, y8, y9, y10, y11, y12, y13, x14, x15, x16, x17]) S' ∧ T 0 S' (n + 50) := by
  unfold lb
  obtain ⟨ds, S1, a1, a2, a3, a4, a5⟩ := s3 (m := m) (ns := ns) (x2 := x2) (x3 := x3) (x4 := x4) (x5 := x5) (x6 := x6) (x7 := x7) (x8 := x8) (x9 := x9) (x10 := x10) (x11 := x11) (x12 := x12) (x13 := x13) (x14 := x14) (x15 := x15) (x16 := x16) (x17 := x17) hT (by omega)
  obtain ⟨g, S2, b1, b2, b3⟩ := s4 (m := m) (ns := ns) (x2 := x2) (x3 := some (.lst (signs ds))) (x4 := x4) (x5 := x5) (x6 := x6) (x7 := x7) (x8 := x8) (x9 := x9) (x10 := x10) (x11 := x11) (x12 := x12) (x13 := x13) (x14 := x14) (x15 := x15) (x16 := x16) (x17 := x17) a5 (by omega)
  obtain ⟨ws, S3, c1, c2, c3, c4⟩ := s7 (m := m) (ns := ns) (x2 := x2) (x3 := some (.lst (signs ds))) (x4 := some (.str (kd g))) (x5 := some (.str (kd (turn g)))) (x6 := some (.tup (encs (ds.map .act)))) (x7 := x7) (x8 := x8) (x9 := x9) (x10 := x10) (x11 := x11) (x12 := x12) (x13 := x13) (x14 := x14) (x15 := x15) (x16 := x16) (x17 := x17) b3 (by omega)
  obtain ⟨a, S4, d1, d2, d3, d4⟩ := s10 (m := m) (ns := ns) (ds := ds) (x2 := x2) (x3 := some (.lst (signs ds))) (x4 := some (.str (kd g))) (x5 := some (.str (kd (turn g)))) (x7 := some (.tup (ws.map Wd.enc))) (x8 := some (.lst (ws.map fun w => pairD (dueL w g 100 ds)))) (x9 := some (enc (.inv (mkK (turn g) (ds.map fun c => .inv (.act c)))))) (x10 := x10) (x11 := x11) (x12 := x12) (x13 := x13) (x14 := x14) (x15 := x15) (x16 := x16) (x17 := x17) a3 c4 (by omega)
  obtain ⟨x13', S5, e1, e2⟩ := s13 (m := m) (ns := ns) (x2 := x2) (x3 := some (.lst (signs ds))) (x5 := some (.str (kd (turn g)))) (x10 := some (.int (a : Nat))) (x13 := x13) (x14 := x14) (x15 := x15) (x16 := x16) (x17 := x17) hm b2 a2 a4 d2 d3 (fun w hw => (c2 w hw).1) (by omega) d4
  refine ⟨some (.lst (signs ds)), some (.str (kd g)), some (.str (kd (turn g))), some (.tup (encs (ds.map .act))), some (.tup (ws.map Wd.enc)), some (.lst (ws.map fun w => pairD (dueL w g 100 ds))), some (enc (.inv (mkK (turn g) (ds.map fun c => .inv (.act c))))), some (.int (a : Nat)), some (enc (mkF g (ds.take a))), some (enc (mkF g (ds.drop a))), x13', S5, ?_, T.mono e2 (by omega)⟩
  rw [ss_nx a1, ss_nx b1, ss_nx (s5 b2), ss_nx (s6 (by omega)), ss_nx c1, ss_nx (s8 b2 a2 (by omega) (by omega)), ss_nx (s9 (by omega)), ss_nx d1, ss_nx (s11 d2 d3), ss_nx (s12 d2 d3), ss_nx e1, evSs]
end
def Sh (ns : List Int) (σ : Nv) : Prop := ∃ x2 x3 x4 x5 x6 x7 x8 x9 x10 x11 x12 x13 x14 x15 x16 x17, σ = [some (.lst (ns.map .int)), some (.obj 0), x2, x3, x4, x5, x6, x7, x8, x9, x10, x11, x12, x13, x14, x15, x16, x17]
theorem law_loop {m : Nat} {ns : List Int} (hm : 20 ≤ m) : ∀ (ds : List D) (σ : Nv) (S : Sto) (n : Nat), Sh ns σ → T 0 S n → n + 50 * ds.length ≤ 800000 → ∃ σ' S', forD (fun σ S => evSs (callN fns (m + 4)) lb σ S) (.name 2) ds σ S = .ok (.nx, σ') S'
  | [], σ, S, n, _, _, _ => ⟨σ, S, rfl⟩
  | d :: ds, σ, S, n, hs, hT, hn => by
    obtain ⟨x2, x3, x4, x5, x6, x7, x8, x9, x10, x11, x12, x13, x14, x15, x16, x17, rfl⟩ := hs
    simp only [List.length_cons] at hn
    obtain ⟨y3, y4, y5, y6, y7, y8, y9, y10, y11, y12, y13, S1, h1, h2⟩ := lb_ok (m := m) (ns := ns) (x2 := some d) (x3 := x3) (x4 := x4) (x5 := x5) (x6 := x6) (x7 := x7) (x8 := x8) (x9 := x9) (x10 := x10) (x11 := x11) (x12 := x12) (x13 := x13) (x14 := x14) (x15 := x15) (x16 := x16) (x17 := x17) hm hT (by omega)
    obtain ⟨σ2, S2, h3⟩ := law_loop hm ds _ S1 (n + 50) ⟨some d, y3, y4, y5, y6, y7, y8, y9, y10, y11, y12, y13, x14, x15, x16, x17, rfl⟩ h2 (by omega)
    refine ⟨σ2, S2, ?_⟩
    simp only [forD, setTg, List.set_cons_zero, List.set_cons_succ, h1, bok]
    exact h3
theorem law_true : ∀ ns : List Int, ns.length ≤ 63 → ∃ S', callN fns 30 18 [.lst (ns.map .int)] [] = .ok (.bl true) S' := by
  intro ns _
  obtain ⟨σ', S', h⟩ := law_loop (m := 25) (ns := ns) (by decide) (rangeD 0 8) [some (.lst (ns.map .int)), some (.obj 0), none, none, none, none, none, none, none, none, none, none, none, none, none, none, none, none] [.lst []] 0 ⟨none, none, none, none, none, none, none, none, none, none, none, none, none, none, none, none, rfl⟩ ⟨[], rfl, Nat.le_refl _⟩ (by decide)
  refine ⟨S', ?_⟩
  rw [call_at at_18 rfl]
  show (evSs (callN fns 29) b_18 [some (.lst (ns.map .int)), none, none, none, none, none, none, none, none, none, none, none, none, none, none, none, none, none] []).bind _ = _
  rw [b18_eq]
  rw [ss_nx (show evS (callN fns 29) (.set 1 .newl) _ [] = .ok (.nx, [some (.lst (ns.map .int)), some (.obj 0), none, none, none, none, none, none, none, none, none, none, none, none, none, none, none, none]) [.lst []] from rfl)]
  rw [ss_nx (show evS (callN fns 29) (.for (.range1 (.cst (D.int (8)))) (.name 2) lb) _ _ = .ok (.nx, σ') S' from by rw [evS]; exact h)]
  rfl
end K24

namespace K24
open PySem PySem.Spec L2 Ev
def top (i : Nat) : Stmt := PySem.Challenge.pw_ticktrees_k24_whole_rows_and_picks.main.body.getD i (.Pass ⟨0, 0, 0, 0⟩)
abbrev s_0 : Stmt := top 0
abbrev s_1 : Stmt := inClass (top 7) 0
abbrev s_2 : Stmt := inClass (top 7) 1
abbrev s_3 : Stmt := inClass (top 7) 2
abbrev s_4 : Stmt := inClass (top 7) 3
abbrev s_5 : Stmt := inClass (top 8) 0
abbrev s_6 : Stmt := inClass (top 8) 1
abbrev s_7 : Stmt := inClass (top 8) 2
abbrev s_8 : Stmt := inClass (top 8) 3
abbrev s_9 : Stmt := inClass (top 8) 4
abbrev s_10 : Stmt := inClass (top 8) 5
abbrev s_11 : Stmt := inClass (top 8) 6
abbrev s_12 : Stmt := top 9
abbrev s_13 : Stmt := top 11
abbrev s_14 : Stmt := top 12
abbrev s_15 : Stmt := top 18
abbrev s_16 : Stmt := top 19
abbrev s_17 : Stmt := top 20
abbrev s_18 : Stmt := top 21
def fi_0 : FnI := ⟨"_wall", "_wall", s_0, ["k"], ["k"], fn_0, none⟩
def fi_1 : FnI := ⟨"__init__", "Tick.__init__", s_1, ["self", "world", "before"], ["self", "world", "before"], fn_1, some 0⟩
def fi_2 : FnI := ⟨"come_to", "Tick.come_to", s_2, ["self", "part", "way", "word", "inner"], ["self", "part", "way"], fn_2, some 0⟩
def fi_3 : FnI := ⟨"come_to_hold", "Tick.come_to_hold", s_3, ["self", "parts", "way", "result", "number"], ["self", "parts", "way"], fn_3, some 0⟩
def fi_4 : FnI := ⟨"come_along", "Tick.come_along", s_4, ["self", "parts", "way", "number", "sign", "result"], ["self", "parts", "way", "number", "sign"], fn_4, some 0⟩
def fi_5 : FnI := ⟨"__init__", "Ticker.__init__", s_5, ["self", "tree"], ["self", "tree"], fn_5, some 1⟩
def fi_6 : FnI := ⟨"tick", "Ticker.tick", s_6, ["self", "world", "one", "result", "deeds"], ["self", "world"], fn_6, some 1⟩
def fi_7 : FnI := ⟨"held", "Ticker.held", s_7, ["self"], ["self"], fn_7, some 1⟩
def fi_8 : FnI := ⟨"told", "Ticker.told", s_8, ["self"], ["self"], fn_8, some 1⟩
def fi_9 : FnI := ⟨"let_go", "Ticker.let_go", s_9, ["self"], ["self"], fn_9, some 1⟩
def fi_10 : FnI := ⟨"undo", "Ticker.undo", s_10, ["self", "places", "many"], ["self"], fn_10, some 1⟩
def fi_11 : FnI := ⟨"keep_past", "Ticker.keep_past", s_11, ["self"], ["self"], fn_11, some 1⟩
def fi_12 : FnI := ⟨"run", "run", s_12, ["tree", "some", "ticker", "world"], ["tree", "some"], fn_12, none⟩
def fi_13 : FnI := ⟨"_law_draw", "_law_draw", s_13, ["_law_script", "_law_town", "_law_many", "_law_k", "_law_cell", "_law_number", "_law_more"], ["_law_script", "_law_town", "_law_many"], fn_13, none⟩
def fi_14 : FnI := ⟨"_law_pick", "_law_pick", s_14, ["_law_script", "_law_town", "_law_some"], ["_law_script", "_law_town", "_law_some"], fn_14, none⟩
def fi_15 : FnI := ⟨"_law_world", "_law_world", s_15, ["_law_script", "_law_town", "_law_senses", "_law_sense", "_law_k"], ["_law_script", "_law_town"], fn_15, none⟩
def fi_16 : FnI := ⟨"_law_due", "_law_due", s_16, ["_law_kind", "_law_deeds", "_law_world_here", "_law_deed", "_law_goes_on", "_law_done", "_law_sign"], ["_law_kind", "_law_deeds", "_law_world_here"], fn_16, none⟩
def fi_17 : FnI := ⟨"_law_told", "_law_told", s_17, ["_law_tree_here", "_law_some", "_law_row"], ["_law_tree_here", "_law_some"], fn_17, none⟩
def fi_18 : FnI := ⟨"law", "law", s_18, ["_law_script", "_law_town", "_law_k", "_law_deeds", "_law_kind", "_law_other", "_law_leaves", "_law_some", "_law_due_here", "_law_nots", "_law_at", "_law_first", "_law_last", "_law_tree_here", "_law_j", "_law_world_here", "_law_deed", "_law_leaf"], ["_law_script"], fn_18, none⟩
def gc : Gc := ⟨[fi_0, fi_1, fi_2, fi_3, fi_4, fi_5, fi_6, fi_7, fi_8, fi_9, fi_10, fi_11, fi_12, fi_13, fi_14, fi_15, fi_16, fi_17, fi_18], ["Tick", "Ticker"], ["world", "before", "places", "deeds", "tree", "ticks", "past"], [("DEEDS", (D.tup [(D.str [112]), (D.str [113]), (D.str [114])]))], [("TURNED", [([100], [102]), ([102], [100]), ([103], [103])])], [("DEEDS", [[112], [113], [114]])]⟩
theorem chk_all : gc.fns.all (chkF gc) = true := by decide +kernel
theorem all_mk {l : PySem.W.OpenLaw} {w : World} {K : PySem.W.Frag} {h : Heap} {mg : Str → Option Value} {fa : Addr} (X : K.In h) (G : h.Ns mainGlobals mg) (hfa : mg "law" = some (.ref fa))
    {C0 C1 : Addr} {f0 f1 f2 f3 f4 f5 f6 f7 f8 f9 f10 f11 f12 f13 f14 f15 f16 f17 f18 : Addr} {od0 an0 od1 an1 od2 an2 od3 an3 od4 an4 od5 an5 od6 an6 od7 an7 od8 an8 od9 an9 od10 an10 od11 an11 od12 an12 od13 an13 od14 an14 od15 an15 od16 an16 od17 an17 od18 an18 : Option Addr} {sl0 sl1 sl2 sl3 sl4 sl5 sl6 sl7 sl8 sl9 sl10 sl11 sl12 sl13 sl14 sl15 sl16 sl17 sl18 : Array (Option Value)} {oc0 kV0 dc0 pm0 cd0 ct0 oc1 kV1 dc1 pm1 cd1 ct1 oc2 kV2 dc2 pm2 cd2 ct2 oc3 kV3 dc3 pm3 cd3 ct3 oc4 kV4 dc4 pm4 cd4 ct4 oc5 kV5 dc5 pm5 cd5 ct5 oc6 kV6 dc6 pm6 cd6 ct6 oc7 kV7 dc7 pm7 cd7 ct7 oc8 kV8 dc8 pm8 cd8 ct8 oc9 kV9 dc9 pm9 cd9 ct9 oc10 kV10 dc10 pm10 cd10 ct10 oc11 kV11 dc11 pm11 cd11 ct11 oc12 kV12 dc12 pm12 cd12 ct12 oc13 kV13 dc13 pm13 cd13 ct13 oc14 kV14 dc14 pm14 cd14 ct14 oc15 kV15 dc15 pm15 cd15 ct15 oc16 kV16 dc16 pm16 cd16 ct16 oc17 kV17 dc17 pm17 cd17 ct17 oc18 kV18 dc18 pm18 cd18 ct18 : Value} {g0 : Addr} {gs0 : Array (Option Value)} {gn0 : Nat} {gt0_0 gt0_1 gt0_2 : Tok} {d0 : Addr} {dep0 : Nat} {dt0_0 du0_0 dt0_1 du0_1 dt0_2 du0_2 : Tok} {dh0_0 dh0_1 dh0_2 : Int}
    (aC0 : PySem.W.nsIn K mainGlobals "Tick" = some (some (.ref C0)))
    (pg0 : PySem.W.plainGet K C0 Str.empty = true)
    (hd0 : PySem.W.hasDictIn K C0 = true)
    (po0 : PySem.W.plainOver K C0 = true)
    (sa0 : PySem.W.findIn K (.ref C0) "__setattr__" = some (some (.builtin "object.__setattr__")))
    (mk0 : PySem.W.makesIn K C0 = true)
    (kc0 : PySem.W.keepIn K (.ref C0) = true)
    (na0_0 : PySem.W.findIn K (.ref C0) "world" = some none)
    (na0_1 : PySem.W.findIn K (.ref C0) "before" = some none)
    (na0_2 : PySem.W.findIn K (.ref C0) "places" = some none)
    (na0_3 : PySem.W.findIn K (.ref C0) "deeds" = some none)
    (na0_4 : PySem.W.findIn K (.ref C0) "tree" = some none)
    (na0_5 : PySem.W.findIn K (.ref C0) "ticks" = some none)
    (na0_6 : PySem.W.findIn K (.ref C0) "past" = some none)
    (aC1 : PySem.W.nsIn K mainGlobals "Ticker" = some (some (.ref C1)))
    (pg1 : PySem.W.plainGet K C1 Str.empty = true)
    (hd1 : PySem.W.hasDictIn K C1 = true)
    (po1 : PySem.W.plainOver K C1 = true)
    (sa1 : PySem.W.findIn K (.ref C1) "__setattr__" = some (some (.builtin "object.__setattr__")))
    (mk1 : PySem.W.makesIn K C1 = true)
    (kc1 : PySem.W.keepIn K (.ref C1) = true)
    (na1_0 : PySem.W.findIn K (.ref C1) "world" = some none)
    (na1_1 : PySem.W.findIn K (.ref C1) "before" = some none)
    (na1_2 : PySem.W.findIn K (.ref C1) "places" = some none)
    (na1_3 : PySem.W.findIn K (.ref C1) "deeds" = some none)
    (na1_4 : PySem.W.findIn K (.ref C1) "tree" = some none)
    (na1_5 : PySem.W.findIn K (.ref C1) "ticks" = some none)
    (na1_6 : PySem.W.findIn K (.ref C1) "past" = some none)
    (a0 : PySem.W.nsIn K mainGlobals "_wall" = some (some (.ref f0)))
    (l0 : K.lookup f0 = some ⟨oc0, od0, .func (PySem.W.fnOf "_wall" "_wall" (defArgs s_0) (defBody s_0) (defScope s_0) .none kV0 dc0 pm0 an0 cd0 ct0), sl0⟩)
    (c0 : PySem.W.codeIn K cd0 "_wall" = true)
    (k0 : PySem.W.keepIn K (.ref f0) = true)
    (a1 : PySem.W.findIn K (.ref C0) "__init__" = some (some (.ref f1)))
    (i1 : PySem.W.isFn K (.ref f1) = true)
    (l1 : K.lookup f1 = some ⟨oc1, od1, .func (PySem.W.fnOf "__init__" "Tick.__init__" (defArgs s_1) (defBody s_1) (defScope s_1) .none kV1 dc1 pm1 an1 cd1 ct1), sl1⟩)
    (c1 : PySem.W.codeIn K cd1 "Tick.__init__" = true)
    (k1 : PySem.W.keepIn K (.ref f1) = true)
    (a2 : PySem.W.findIn K (.ref C0) "come_to" = some (some (.ref f2)))
    (i2 : PySem.W.isFn K (.ref f2) = true)
    (l2 : K.lookup f2 = some ⟨oc2, od2, .func (PySem.W.fnOf "come_to" "Tick.come_to" (defArgs s_2) (defBody s_2) (defScope s_2) .none kV2 dc2 pm2 an2 cd2 ct2), sl2⟩)
    (c2 : PySem.W.codeIn K cd2 "Tick.come_to" = true)
    (k2 : PySem.W.keepIn K (.ref f2) = true)
    (a3 : PySem.W.findIn K (.ref C0) "come_to_hold" = some (some (.ref f3)))
    (i3 : PySem.W.isFn K (.ref f3) = true)
    (l3 : K.lookup f3 = some ⟨oc3, od3, .func (PySem.W.fnOf "come_to_hold" "Tick.come_to_hold" (defArgs s_3) (defBody s_3) (defScope s_3) .none kV3 dc3 pm3 an3 cd3 ct3), sl3⟩)
    (c3 : PySem.W.codeIn K cd3 "Tick.come_to_hold" = true)
    (k3 : PySem.W.keepIn K (.ref f3) = true)
    (a4 : PySem.W.findIn K (.ref C0) "come_along" = some (some (.ref f4)))
    (i4 : PySem.W.isFn K (.ref f4) = true)
    (l4 : K.lookup f4 = some ⟨oc4, od4, .func (PySem.W.fnOf "come_along" "Tick.come_along" (defArgs s_4) (defBody s_4) (defScope s_4) .none kV4 dc4 pm4 an4 cd4 ct4), sl4⟩)
    (c4 : PySem.W.codeIn K cd4 "Tick.come_along" = true)
    (k4 : PySem.W.keepIn K (.ref f4) = true)
    (a5 : PySem.W.findIn K (.ref C1) "__init__" = some (some (.ref f5)))
    (i5 : PySem.W.isFn K (.ref f5) = true)
    (l5 : K.lookup f5 = some ⟨oc5, od5, .func (PySem.W.fnOf "__init__" "Ticker.__init__" (defArgs s_5) (defBody s_5) (defScope s_5) .none kV5 dc5 pm5 an5 cd5 ct5), sl5⟩)
    (c5 : PySem.W.codeIn K cd5 "Ticker.__init__" = true)
    (k5 : PySem.W.keepIn K (.ref f5) = true)
    (a6 : PySem.W.findIn K (.ref C1) "tick" = some (some (.ref f6)))
    (i6 : PySem.W.isFn K (.ref f6) = true)
    (l6 : K.lookup f6 = some ⟨oc6, od6, .func (PySem.W.fnOf "tick" "Ticker.tick" (defArgs s_6) (defBody s_6) (defScope s_6) .none kV6 dc6 pm6 an6 cd6 ct6), sl6⟩)
    (c6 : PySem.W.codeIn K cd6 "Ticker.tick" = true)
    (k6 : PySem.W.keepIn K (.ref f6) = true)
    (a7 : PySem.W.findIn K (.ref C1) "held" = some (some (.ref f7)))
    (i7 : PySem.W.isFn K (.ref f7) = true)
    (l7 : K.lookup f7 = some ⟨oc7, od7, .func (PySem.W.fnOf "held" "Ticker.held" (defArgs s_7) (defBody s_7) (defScope s_7) .none kV7 dc7 pm7 an7 cd7 ct7), sl7⟩)
    (c7 : PySem.W.codeIn K cd7 "Ticker.held" = true)
    (k7 : PySem.W.keepIn K (.ref f7) = true)
    (a8 : PySem.W.findIn K (.ref C1) "told" = some (some (.ref f8)))
    (i8 : PySem.W.isFn K (.ref f8) = true)
    (l8 : K.lookup f8 = some ⟨oc8, od8, .func (PySem.W.fnOf "told" "Ticker.told" (defArgs s_8) (defBody s_8) (defScope s_8) .none kV8 dc8 pm8 an8 cd8 ct8), sl8⟩)
    (c8 : PySem.W.codeIn K cd8 "Ticker.told" = true)
    (k8 : PySem.W.keepIn K (.ref f8) = true)
    (a9 : PySem.W.findIn K (.ref C1) "let_go" = some (some (.ref f9)))
    (i9 : PySem.W.isFn K (.ref f9) = true)
    (l9 : K.lookup f9 = some ⟨oc9, od9, .func (PySem.W.fnOf "let_go" "Ticker.let_go" (defArgs s_9) (defBody s_9) (defScope s_9) .none kV9 dc9 pm9 an9 cd9 ct9), sl9⟩)
    (c9 : PySem.W.codeIn K cd9 "Ticker.let_go" = true)
    (k9 : PySem.W.keepIn K (.ref f9) = true)
    (a10 : PySem.W.findIn K (.ref C1) "undo" = some (some (.ref f10)))
    (i10 : PySem.W.isFn K (.ref f10) = true)
    (l10 : K.lookup f10 = some ⟨oc10, od10, .func (PySem.W.fnOf "undo" "Ticker.undo" (defArgs s_10) (defBody s_10) (defScope s_10) .none kV10 dc10 pm10 an10 cd10 ct10), sl10⟩)
    (c10 : PySem.W.codeIn K cd10 "Ticker.undo" = true)
    (k10 : PySem.W.keepIn K (.ref f10) = true)
    (a11 : PySem.W.findIn K (.ref C1) "keep_past" = some (some (.ref f11)))
    (i11 : PySem.W.isFn K (.ref f11) = true)
    (l11 : K.lookup f11 = some ⟨oc11, od11, .func (PySem.W.fnOf "keep_past" "Ticker.keep_past" (defArgs s_11) (defBody s_11) (defScope s_11) .none kV11 dc11 pm11 an11 cd11 ct11), sl11⟩)
    (c11 : PySem.W.codeIn K cd11 "Ticker.keep_past" = true)
    (k11 : PySem.W.keepIn K (.ref f11) = true)
    (a12 : PySem.W.nsIn K mainGlobals "run" = some (some (.ref f12)))
    (l12 : K.lookup f12 = some ⟨oc12, od12, .func (PySem.W.fnOf "run" "run" (defArgs s_12) (defBody s_12) (defScope s_12) .none kV12 dc12 pm12 an12 cd12 ct12), sl12⟩)
    (c12 : PySem.W.codeIn K cd12 "run" = true)
    (k12 : PySem.W.keepIn K (.ref f12) = true)
    (a13 : PySem.W.nsIn K mainGlobals "_law_draw" = some (some (.ref f13)))
    (l13 : K.lookup f13 = some ⟨oc13, od13, .func (PySem.W.fnOf "_law_draw" "_law_draw" (defArgs s_13) (defBody s_13) (defScope s_13) .none kV13 dc13 pm13 an13 cd13 ct13), sl13⟩)
    (c13 : PySem.W.codeIn K cd13 "_law_draw" = true)
    (k13 : PySem.W.keepIn K (.ref f13) = true)
    (a14 : PySem.W.nsIn K mainGlobals "_law_pick" = some (some (.ref f14)))
    (l14 : K.lookup f14 = some ⟨oc14, od14, .func (PySem.W.fnOf "_law_pick" "_law_pick" (defArgs s_14) (defBody s_14) (defScope s_14) .none kV14 dc14 pm14 an14 cd14 ct14), sl14⟩)
    (c14 : PySem.W.codeIn K cd14 "_law_pick" = true)
    (k14 : PySem.W.keepIn K (.ref f14) = true)
    (a15 : PySem.W.nsIn K mainGlobals "_law_world" = some (some (.ref f15)))
    (l15 : K.lookup f15 = some ⟨oc15, od15, .func (PySem.W.fnOf "_law_world" "_law_world" (defArgs s_15) (defBody s_15) (defScope s_15) .none kV15 dc15 pm15 an15 cd15 ct15), sl15⟩)
    (c15 : PySem.W.codeIn K cd15 "_law_world" = true)
    (k15 : PySem.W.keepIn K (.ref f15) = true)
    (a16 : PySem.W.nsIn K mainGlobals "_law_due" = some (some (.ref f16)))
    (l16 : K.lookup f16 = some ⟨oc16, od16, .func (PySem.W.fnOf "_law_due" "_law_due" (defArgs s_16) (defBody s_16) (defScope s_16) .none kV16 dc16 pm16 an16 cd16 ct16), sl16⟩)
    (c16 : PySem.W.codeIn K cd16 "_law_due" = true)
    (k16 : PySem.W.keepIn K (.ref f16) = true)
    (a17 : PySem.W.nsIn K mainGlobals "_law_told" = some (some (.ref f17)))
    (l17 : K.lookup f17 = some ⟨oc17, od17, .func (PySem.W.fnOf "_law_told" "_law_told" (defArgs s_17) (defBody s_17) (defScope s_17) .none kV17 dc17 pm17 an17 cd17 ct17), sl17⟩)
    (c17 : PySem.W.codeIn K cd17 "_law_told" = true)
    (k17 : PySem.W.keepIn K (.ref f17) = true)
    (a18 : PySem.W.nsIn K mainGlobals "law" = some (some (.ref f18)))
    (l18 : K.lookup f18 = some ⟨oc18, od18, .func (PySem.W.fnOf "law" "law" (defArgs s_18) (defBody s_18) (defScope s_18) .none kV18 dc18 pm18 an18 cd18 ct18), sl18⟩)
    (c18 : PySem.W.codeIn K cd18 "law" = true)
    (k18 : PySem.W.keepIn K (.ref f18) = true)
    (z0 : PySem.W.nsIn K mainGlobals "len" = some none)
    (z1 : PySem.W.nsIn K mainGlobals "tuple" = some none)
    (z2 : PySem.W.nsIn K mainGlobals "sum" = some none)
    (z3 : PySem.W.nsIn K mainGlobals "range" = some none)
    (z4 : PySem.W.nsIn K mainGlobals "enumerate" = some none)
    (z5 : PySem.W.nsIn K mainGlobals "zip" = some none)
    (ga0 : PySem.W.nsIn K mainGlobals "DEEDS" = some (some (.ref g0)))
    (gl0 : K.lookup g0 = some ⟨.type "tuple", none, .seq #[.str "p" gt0_0, .str "q" gt0_1, .str "r" gt0_2] gn0, gs0⟩)
    (da0 : PySem.W.nsIn K mainGlobals "TURNED" = some (some (.ref d0)))
    (dl0 : K.lookup d0 = some ⟨.type "dict", none, .dict #[⟨dh0_0, .str "d" dt0_0, .str "f" du0_0⟩, ⟨dh0_1, .str "f" dt0_1, .str "d" du0_1⟩, ⟨dh0_2, .str "g" dt0_2, .str "g" du0_2⟩] dep0, #[]⟩)
    (de0_0 : dh0_0 = hashStr w "d")
    (de0_1 : dh0_1 = hashStr w "f")
    (de0_2 : dh0_2 = hashStr w "g")
    (hl : ∀ ns : List Int, ns.length ≤ 63 → ∃ S', callN fns 30 18 [.lst (ns.map .int)] [] = .ok (.bl true) S') :
    ∃ fd : FuncData, (∀ (s : Shared) (v : Value), BindsTo s fd ⟨[v], []⟩ [("_law_script", v)]) ∧ ∀ base : Heap, K.In base → base.Ns mainGlobals mg → FnOk l.prog w K mg base CX0 (2 * 30) fa fd ["_law_script"] (spLaw K) := by
  have e := hfa.symm.trans (PySem.W.mg_of X G a18)
  cases e
  have F0 := fun_mk (st := s_0) l0 c0 k0
  have b0 := F0.binds (ps := ["k"]) fun _ _ _ _ _ _ us hl => match us, hl with | [_], _ => rfl
  have F1 := fun_mk (st := s_1) l1 c1 k1
  have b1 := F1.binds (ps := ["self", "world", "before"]) fun _ _ _ _ _ _ us hl => match us, hl with | [_, _, _], _ => rfl
  have F2 := fun_mk (st := s_2) l2 c2 k2
  have b2 := F2.binds (ps := ["self", "part", "way"]) fun _ _ _ _ _ _ us hl => match us, hl with | [_, _, _], _ => rfl
  have F3 := fun_mk (st := s_3) l3 c3 k3
  have b3 := F3.binds (ps := ["self", "parts", "way"]) fun _ _ _ _ _ _ us hl => match us, hl with | [_, _, _], _ => rfl
  have F4 := fun_mk (st := s_4) l4 c4 k4
  have b4 := F4.binds (ps := ["self", "parts", "way", "number", "sign"]) fun _ _ _ _ _ _ us hl => match us, hl with | [_, _, _, _, _], _ => rfl
  have F5 := fun_mk (st := s_5) l5 c5 k5
  have b5 := F5.binds (ps := ["self", "tree"]) fun _ _ _ _ _ _ us hl => match us, hl with | [_, _], _ => rfl
  have F6 := fun_mk (st := s_6) l6 c6 k6
  have b6 := F6.binds (ps := ["self", "world"]) fun _ _ _ _ _ _ us hl => match us, hl with | [_, _], _ => rfl
  have F7 := fun_mk (st := s_7) l7 c7 k7
  have b7 := F7.binds (ps := ["self"]) fun _ _ _ _ _ _ us hl => match us, hl with | [_], _ => rfl
  have F8 := fun_mk (st := s_8) l8 c8 k8
  have b8 := F8.binds (ps := ["self"]) fun _ _ _ _ _ _ us hl => match us, hl with | [_], _ => rfl
  have F9 := fun_mk (st := s_9) l9 c9 k9
  have b9 := F9.binds (ps := ["self"]) fun _ _ _ _ _ _ us hl => match us, hl with | [_], _ => rfl
  have F10 := fun_mk (st := s_10) l10 c10 k10
  have b10 := F10.binds (ps := ["self"]) fun _ _ _ _ _ _ us hl => match us, hl with | [_], _ => rfl
  have F11 := fun_mk (st := s_11) l11 c11 k11
  have b11 := F11.binds (ps := ["self"]) fun _ _ _ _ _ _ us hl => match us, hl with | [_], _ => rfl
  have F12 := fun_mk (st := s_12) l12 c12 k12
  have b12 := F12.binds (ps := ["tree", "some"]) fun _ _ _ _ _ _ us hl => match us, hl with | [_, _], _ => rfl
  have F13 := fun_mk (st := s_13) l13 c13 k13
  have b13 := F13.binds (ps := ["_law_script", "_law_town", "_law_many"]) fun _ _ _ _ _ _ us hl => match us, hl with | [_, _, _], _ => rfl
  have F14 := fun_mk (st := s_14) l14 c14 k14
  have b14 := F14.binds (ps := ["_law_script", "_law_town", "_law_some"]) fun _ _ _ _ _ _ us hl => match us, hl with | [_, _, _], _ => rfl
  have F15 := fun_mk (st := s_15) l15 c15 k15
  have b15 := F15.binds (ps := ["_law_script", "_law_town"]) fun _ _ _ _ _ _ us hl => match us, hl with | [_, _], _ => rfl
  have F16 := fun_mk (st := s_16) l16 c16 k16
  have b16 := F16.binds (ps := ["_law_kind", "_law_deeds", "_law_world_here"]) fun _ _ _ _ _ _ us hl => match us, hl with | [_, _, _], _ => rfl
  have F17 := fun_mk (st := s_17) l17 c17 k17
  have b17 := F17.binds (ps := ["_law_tree_here", "_law_some"]) fun _ _ _ _ _ _ us hl => match us, hl with | [_, _], _ => rfl
  have F18 := fun_mk (st := s_18) l18 c18 k18
  have b18 := F18.binds (ps := ["_law_script"]) fun _ _ _ _ _ _ us hl => match us, hl with | [_], _ => rfl
  have Fd0 : Fd gc ⟨fun i => ([C0, C1] : List Addr).getD i 0, gc.attrs⟩ _ _ l.prog w K mg := fd_of (G := gc) (P := l.prog) (w := w) (K := K) (mg := mg) (cs := [C0, C1]) (ps := [(f0, _), (f1, _), (f2, _), (f3, _), (f4, _), (f5, _), (f6, _), (f7, _), (f8, _), (f9, _), (f10, _), (f11, _), (f12, _), (f13, _), (f14, _), (f15, _), (f16, _), (f17, _), (fa, _)]) (PySem.W.fnOf "law" "law" (defArgs s_18) (defBody s_18) (defScope s_18) .none kV18 dc18 pm18 an18 cd18 ct18)
    (.cons (ff_top (fi := fi_0) F0 b0 rfl (PySem.W.mg_of X G a0))
    (.cons (ff_init (fi := fi_1) F1 b1 rfl rfl ⟨mk0, a1, i1, kc0⟩)
    (.cons (ff_meth (fi := fi_2) F2 b2 rfl (by decide +kernel) ⟨a2, i2, k2⟩ (show fi_2.name ∉ gc.attrs by decide +kernel))
    (.cons (ff_meth (fi := fi_3) F3 b3 rfl (by decide +kernel) ⟨a3, i3, k3⟩ (show fi_3.name ∉ gc.attrs by decide +kernel))
    (.cons (ff_meth (fi := fi_4) F4 b4 rfl (by decide +kernel) ⟨a4, i4, k4⟩ (show fi_4.name ∉ gc.attrs by decide +kernel))
    (.cons (ff_init (fi := fi_5) F5 b5 rfl rfl ⟨mk1, a5, i5, kc1⟩)
    (.cons (ff_meth (fi := fi_6) F6 b6 rfl (by decide +kernel) ⟨a6, i6, k6⟩ (show fi_6.name ∉ gc.attrs by decide +kernel))
    (.cons (ff_meth (fi := fi_7) F7 b7 rfl (by decide +kernel) ⟨a7, i7, k7⟩ (show fi_7.name ∉ gc.attrs by decide +kernel))
    (.cons (ff_meth (fi := fi_8) F8 b8 rfl (by decide +kernel) ⟨a8, i8, k8⟩ (show fi_8.name ∉ gc.attrs by decide +kernel))
    (.cons (ff_meth (fi := fi_9) F9 b9 rfl (by decide +kernel) ⟨a9, i9, k9⟩ (show fi_9.name ∉ gc.attrs by decide +kernel))
    (.cons (ff_meth (fi := fi_10) F10 b10 rfl (by decide +kernel) ⟨a10, i10, k10⟩ (show fi_10.name ∉ gc.attrs by decide +kernel))
    (.cons (ff_meth (fi := fi_11) F11 b11 rfl (by decide +kernel) ⟨a11, i11, k11⟩ (show fi_11.name ∉ gc.attrs by decide +kernel))
    (.cons (ff_top (fi := fi_12) F12 b12 rfl (PySem.W.mg_of X G a12))
    (.cons (ff_top (fi := fi_13) F13 b13 rfl (PySem.W.mg_of X G a13))
    (.cons (ff_top (fi := fi_14) F14 b14 rfl (PySem.W.mg_of X G a14))
    (.cons (ff_top (fi := fi_15) F15 b15 rfl (PySem.W.mg_of X G a15))
    (.cons (ff_top (fi := fi_16) F16 b16 rfl (PySem.W.mg_of X G a16))
    (.cons (ff_top (fi := fi_17) F17 b17 rfl (PySem.W.mg_of X G a17))
    (.cons (ff_top (fi := fi_18) F18 b18 rfl (PySem.W.mg_of X G a18)) .nil)))))))))))))))))))
    (.cons ⟨⟨pg0, hd0, po0, sa0⟩, PySem.W.mg_of X G aC0, fun y hy => by
      simp only [gc, List.mem_cons, List.not_mem_nil, or_false] at hy
      rcases hy with rfl | rfl | rfl | rfl | rfl | rfl | rfl
      · exact na0_0
      · exact na0_1
      · exact na0_2
      · exact na0_3
      · exact na0_4
      · exact na0_5
      · exact na0_6⟩
    (.cons ⟨⟨pg1, hd1, po1, sa1⟩, PySem.W.mg_of X G aC1, fun y hy => by
      simp only [gc, List.mem_cons, List.not_mem_nil, or_false] at hy
      rcases hy with rfl | rfl | rfl | rfl | rfl | rfl | rfl
      · exact na1_0
      · exact na1_1
      · exact na1_2
      · exact na1_3
      · exact na1_4
      · exact na1_5
      · exact na1_6⟩
    .nil))
    (by decide +kernel)
    (by
      intro x hx
      simp only [bltNames, List.mem_cons, List.not_mem_nil, or_false] at hx
      rcases hx with rfl | rfl | rfl | rfl | rfl | rfl
      · exact PySem.W.mg_none_of X G z0
      · exact PySem.W.mg_none_of X G z1
      · exact PySem.W.mg_none_of X G z2
      · exact PySem.W.mg_none_of X G z3
      · exact PySem.W.mg_none_of X G z4
      · exact PySem.W.mg_none_of X G z5)
    (by
      intro p hp
      simp only [gc, List.mem_cons, List.not_mem_nil, or_false] at hp
      rcases hp with rfl
      · exact ⟨_, .ref g0, PySem.W.mg_of X G ga0, rfl, fun H ρ => glob_tup (xs := [[112], [113], [114]]) gl0 rfl rfl (by show 3 ≤ sizeLine; decide) (.cons ⟨_, rfl⟩ (.cons ⟨_, rfl⟩ (.cons ⟨_, rfl⟩ (.nil)))) (by decide) H ρ⟩)
    (by
      intro p hp
      simp only [gc, List.mem_cons, List.not_mem_nil, or_false] at hp
      rcases hp with rfl
      · refine ⟨d0, PySem.W.mg_of X G da0, fun X' hK hP hw => ?_⟩
        subst hK hw
        refine gd_ok (vs := [(Sum.inr "d", .str "f" du0_0), (Sum.inr "f", .str "d" du0_1), (Sum.inr "g", .str "g" du0_2)]) (.cons ⟨(show (Sum.inr ⟨[100].toArray⟩ : Key) = (Sum.inr ("d" : Str) : Key) by decide +kernel), _, (show Value.str "f" _ = Value.str ⟨[102].toArray⟩ _ by rw [show ((⟨[102].toArray⟩ : Str)) = "f" by decide +kernel])⟩ (.cons ⟨(show (Sum.inr ⟨[102].toArray⟩ : Key) = (Sum.inr ("f" : Str) : Key) by decide +kernel), _, (show Value.str "d" _ = Value.str ⟨[100].toArray⟩ _ by rw [show ((⟨[100].toArray⟩ : Str)) = "d" by decide +kernel])⟩ (.cons ⟨(show (Sum.inr ⟨[103].toArray⟩ : Key) = (Sum.inr ("g" : Str) : Key) by decide +kernel), _, (show Value.str "g" _ = Value.str ⟨[103].toArray⟩ _ by rw [show ((⟨[103].toArray⟩ : Str)) = "g" by decide +kernel])⟩ (.nil)))) fun h' kin => ⟨_, _, _, kin _ _ dl0, ⟨rfl, rfl, rfl⟩, rfl, ?_, .cons (mixKind_str _ _ _ _) rfl (.cons (mixKind_str _ _ _ _) rfl (.cons (mixKind_str _ _ _ _) rfl (.nil))), (show ([Sum.inr "d", Sum.inr "f", Sum.inr "g"] : List Key).Nodup by decide +kernel)⟩
        intro e he
        simp only [List.mem_toArray, List.mem_cons, List.not_mem_nil, or_false] at he
        rcases he with rfl | rfl | rfl
        · exact ⟨Sum.inr "d", mixKind_str _ _ _ _, de0_0⟩
        · exact ⟨Sum.inr "f", mixKind_str _ _ _ _, de0_1⟩
        · exact ⟨Sum.inr "g", mixKind_str _ _ _ _, de0_2⟩)
    (by
      intro p hp
      simp only [gc, List.mem_cons, List.not_mem_nil, or_false] at hp
      rcases hp with rfl
      · refine ⟨g0, PySem.W.mg_of X G ga0, ⟨_, gl0, rfl, rfl⟩, fun X' hK hP hw => ?_⟩
        subst hK hw
        exact gt_ok gl0 rfl rfl (.cons ⟨_, rfl⟩ (.cons ⟨_, rfl⟩ (.cons ⟨_, rfl⟩ (.nil)))))
  refine ⟨PySem.W.fnOf "law" "law" (defArgs s_18) (defBody s_18) (defScope s_18) .none kV18 dc18 pm18 an18 cd18 ct18, fun s v => .of_eq rfl, fun base _ _ => ?_⟩
  exact law_fn (base := base) Fd0 chk_all (n := 30) (f := 18) (fi := fi_18) rfl rfl hl
end K24
open PySem PySem.W PyProof.Rows
set_option maxRecDepth 100000 in
set_option maxHeartbeats 0 in
theorem PySem.Challenge.cw_ticktrees_k24_whole_rows_and_picks_holds : PySem.Challenge.rw_ticktrees_k24_whole_rows_and_picks.Holds := by
  w_on; o_law; k_head; (case hw => w_witness2)
  k_fill
  refine Ev.walk (l := PySem.Challenge.rw_ticktrees_k24_whole_rows_and_picks) (x := "_law_script") (n := 30) rfl rfl ⟨rfl, by decide, by decide⟩ (fun w h Y => PySem.W.kIn_of Y) ?F
  case F =>
    intro w mg fa h KX G hmg
    refine' K24.all_mk KX G hmg ?aC0 ?pg0 ?hd0 ?po0 ?sa0 ?mk0 ?kc0 ?na0_0 ?na0_1 ?na0_2 ?na0_3 ?na0_4 ?na0_5 ?na0_6 ?aC1 ?pg1 ?hd1 ?po1 ?sa1 ?mk1 ?kc1 ?na1_0 ?na1_1 ?na1_2 ?na1_3 ?na1_4 ?na1_5 ?na1_6 ?a0 ?l0 ?c0 ?k0 ?a1 ?i1 ?l1 ?c1 ?k1 ?a2 ?i2 ?l2 ?c2 ?k2 ?a3 ?i3 ?l3 ?c3 ?k3 ?a4 ?i4 ?l4 ?c4 ?k4 ?a5 ?i5 ?l5 ?c5 ?k5 ?a6 ?i6 ?l6 ?c6 ?k6 ?a7 ?i7 ?l7 ?c7 ?k7 ?a8 ?i8 ?l8 ?c8 ?k8 ?a9 ?i9 ?l9 ?c9 ?k9 ?a10 ?i10 ?l10 ?c10 ?k10 ?a11 ?i11 ?l11 ?c11 ?k11 ?a12 ?l12 ?c12 ?k12 ?a13 ?l13 ?c13 ?k13 ?a14 ?l14 ?c14 ?k14 ?a15 ?l15 ?c15 ?k15 ?a16 ?l16 ?c16 ?k16 ?a17 ?l17 ?c17 ?k17 ?a18 ?l18 ?c18 ?k18 ?z0 ?z1 ?z2 ?z3 ?z4 ?z5 ?ga0 ?gl0 ?da0 ?dl0 ?de0_0 ?de0_1 ?de0_2 K24.law_true
    (case aC0 => k_is)
    (case pg0 => k_is)
    (case hd0 => k_is)
    (case po0 => k_is)
    (case sa0 => k_is)
    (case mk0 => k_is)
    (case kc0 => k_is)
    (case na0_0 => k_is)
    (case na0_1 => k_is)
    (case na0_2 => k_is)
    (case na0_3 => k_is)
    (case na0_4 => k_is)
    (case na0_5 => k_is)
    (case na0_6 => k_is)
    (case aC1 => k_is)
    (case pg1 => k_is)
    (case hd1 => k_is)
    (case po1 => k_is)
    (case sa1 => k_is)
    (case mk1 => k_is)
    (case kc1 => k_is)
    (case na1_0 => k_is)
    (case na1_1 => k_is)
    (case na1_2 => k_is)
    (case na1_3 => k_is)
    (case na1_4 => k_is)
    (case na1_5 => k_is)
    (case na1_6 => k_is)
    (case a0 => k_is)
    (case l0 => k_is)
    (case c0 => k_is)
    (case k0 => k_is)
    (case a1 => k_is)
    (case i1 => k_is)
    (case l1 => k_is)
    (case c1 => k_is)
    (case k1 => k_is)
    (case a2 => k_is)
    (case i2 => k_is)
    (case l2 => k_is)
    (case c2 => k_is)
    (case k2 => k_is)
    (case a3 => k_is)
    (case i3 => k_is)
    (case l3 => k_is)
    (case c3 => k_is)
    (case k3 => k_is)
    (case a4 => k_is)
    (case i4 => k_is)
    (case l4 => k_is)
    (case c4 => k_is)
    (case k4 => k_is)
    (case a5 => k_is)
    (case i5 => k_is)
    (case l5 => k_is)
    (case c5 => k_is)
    (case k5 => k_is)
    (case a6 => k_is)
    (case i6 => k_is)
    (case l6 => k_is)
    (case c6 => k_is)
    (case k6 => k_is)
    (case a7 => k_is)
    (case i7 => k_is)
    (case l7 => k_is)
    (case c7 => k_is)
    (case k7 => k_is)
    (case a8 => k_is)
    (case i8 => k_is)
    (case l8 => k_is)
    (case c8 => k_is)
    (case k8 => k_is)
    (case a9 => k_is)
    (case i9 => k_is)
    (case l9 => k_is)
    (case c9 => k_is)
    (case k9 => k_is)
    (case a10 => k_is)
    (case i10 => k_is)
    (case l10 => k_is)
    (case c10 => k_is)
    (case k10 => k_is)
    (case a11 => k_is)
    (case i11 => k_is)
    (case l11 => k_is)
    (case c11 => k_is)
    (case k11 => k_is)
    (case a12 => k_is)
    (case l12 => k_is)
    (case c12 => k_is)
    (case k12 => k_is)
    (case a13 => k_is)
    (case l13 => k_is)
    (case c13 => k_is)
    (case k13 => k_is)
    (case a14 => k_is)
    (case l14 => k_is)
    (case c14 => k_is)
    (case k14 => k_is)
    (case a15 => k_is)
    (case l15 => k_is)
    (case c15 => k_is)
    (case k15 => k_is)
    (case a16 => k_is)
    (case l16 => k_is)
    (case c16 => k_is)
    (case k16 => k_is)
    (case a17 => k_is)
    (case l17 => k_is)
    (case c17 => k_is)
    (case k17 => k_is)
    (case a18 => k_is)
    (case l18 => k_is)
    (case c18 => k_is)
    (case k18 => k_is)
    (case z0 => k_is)
    (case z1 => k_is)
    (case z2 => k_is)
    (case z3 => k_is)
    (case z4 => k_is)
    (case z5 => k_is)
    (case ga0 => k_is)
    (case gl0 => k_is)
    (case da0 => k_is)
    (case dl0 => k_is)
    (case de0_0 => first | rfl | k_is)
    (case de0_1 => first | rfl | k_is)
    (case de0_2 => first | rfl | k_is)

