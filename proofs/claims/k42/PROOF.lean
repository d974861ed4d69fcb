import PyProof.Rows.All
import Wide.All
import OpenK.AllK
import Wide.FinOn
import Lean
import PyProof.EqAt
import PyProof.EqKinds
import PyProof.TupleCall
import PyProof.ZipIter
import PyProof.ListNew
import PyProof.Rows.SetFrom
import PyProof.Rows.SortWalk
import PyProof.CollectWalk
import PyProof.SetRoads
import PySem.Challenge.RW_hostturn_k42_like_terms
set_option Elab.async false
set_option linter.all false
set_option maxRecDepth 100000
/-! THE HAND LAYER, for ints, bools, texts, own classes, LISTS and tuples (index, slices, in, append, pop ..), calls, loops. Paste it whole ahead of your own text; what your proof does not reach may be deleted. -/
namespace L2
open PySem PySem.Spec PyProof.Rows
/-- a key: an int or a str -/
abbrev Key := Sum Int Str
def keyIs : Key → Value → Bool
  | .inl k, v => Value.isInt k v
  | .inr x, v => Value.isStrOf x v
def keyH (w : World) : Key → Int
  | .inl k => hashInt k
  | .inr x => hashStr w x
theorem keyIs_shape : ∀ {k : Key} {v : Value}, keyIs k v = true → (∃ i t, k = Sum.inl i ∧ v = Value.int i t) ∨ (∃ x t, k = Sum.inr x ∧ v = Value.str x t)
  | .inl i, v, h => by
    obtain ⟨t, e⟩ := Value.isInt_shape (k := i) (v := v) h
    exact .inl ⟨i, t, rfl, e⟩
  | .inr x, v, h => by
    obtain ⟨t, e⟩ := Value.isStrOf_shape (x := x) (v := v) h
    exact .inr ⟨x, t, rfl, e⟩
theorem keyIs_int (i : Int) (t : Tok) : keyIs (.inl i) (.int i t) = true := by simp [keyIs, Value.isInt]
theorem keyIs_str (x : Str) (t : Tok) : keyIs (.inr x) (.str x t) = true := by simp [keyIs, Value.isStrOf]
theorem key_ll (a b : Int) : decide ((Sum.inl a : Key) = Sum.inl b) = (a == b) := by
  by_cases e : a = b
  · subst e; simp
  · have h : ¬ (Sum.inl a : Key) = Sum.inl b := fun q => e (Sum.inl.inj q)
    rw [decide_eq_false h]
    exact (beq_eq_false_iff_ne.mpr e).symm
theorem key_rr (a b : Str) : decide ((Sum.inr a : Key) = Sum.inr b) = decide (a = b) := by
  by_cases e : a = b
  · subst e; simp
  · have h : ¬ (Sum.inr a : Key) = Sum.inr b := fun q => e (Sum.inr.inj q)
    rw [decide_eq_false h, decide_eq_false e]
theorem key_lr (a : Int) (b : Str) : decide ((Sum.inl a : Key) = Sum.inr b) = false := decide_eq_false (fun q => nomatch q)
theorem key_rl (a : Str) (b : Int) : decide ((Sum.inr a : Key) = Sum.inl b) = false := decide_eq_false (fun q => nomatch q)
def mixKind (prog : Program) (w : World) : PySem.KeyKind prog w Key where
  is := keyIs
  hash := keyH w
  inj := fun v a b ha hb => by
    rcases keyIs_shape ha with ⟨i, t, rfl, rfl⟩ | ⟨x, t, rfl, rfl⟩
    · rcases keyIs_shape hb with ⟨j, u, rfl, e⟩ | ⟨y, u, rfl, e⟩
      · injection e with e1 _; rw [e1]
      · exact nomatch e
    · rcases keyIs_shape hb with ⟨j, u, rfl, e⟩ | ⟨y, u, rfl, e⟩
      · exact nomatch e
      · injection e with e1 _; rw [e1]
  byValue := fun k v h => by
    rcases keyIs_shape h with ⟨i, t, rfl, rfl⟩ | ⟨x, t, rfl, rfl⟩ <;> rfl
  pyHash := fun hv h => by
    rcases keyIs_shape hv with ⟨i, t, rfl, rfl⟩ | ⟨x, t, rfl, rfl⟩
    · exact wpAny_pyHash_int h
    · exact wpAny_pyHash_str h
  eqBool := fun hu hv h => by
    rcases keyIs_shape hu with ⟨i, t, rfl, rfl⟩ | ⟨x, t, rfl, rfl⟩
    · rcases keyIs_shape hv with ⟨j, u, rfl, rfl⟩ | ⟨y, u, rfl, rfl⟩
      · rw [key_ll] at h; exact wpAny_eqBool_int h
      · rw [key_lr] at h; exact SeqAt.EqAt.int_str i t y u _ _ _ _ h
    · rcases keyIs_shape hv with ⟨j, u, rfl, rfl⟩ | ⟨y, u, rfl, rfl⟩
      · rw [key_rl] at h; exact SeqAt.EqAt.str_int x t j u _ _ _ _ h
      · rw [key_rr] at h; exact wpAny_eqBool_str h
  «strs» := fun k x t v h => by
    rcases keyIs_shape h with ⟨i, u, rfl, e⟩ | ⟨y, u, rfl, e⟩
    · exact nomatch e
    · injection e with e1 _
      subst e1
      cases v <;> rfl
theorem mixKind_int (prog : Program) (w : World) (i : Int) (t : Tok) : (mixKind prog w).is (.inl i) (.int i t) = true := keyIs_int i t
theorem mixKind_str (prog : Program) (w : World) (x : Str) (t : Tok) : (mixKind prog w).is (.inr x) (.str x t) = true := keyIs_str x t
end L2
namespace L2
open PySem PySem.Spec PyProof.Rows
/-- a value, without the heap -/
inductive V where
  | non | bl (b : Bool) | int (i : Int) | str (x : Str) | byt (b : Array UInt8) | flt (b : UInt64) | ref (a : Addr) | ty (n : String)
  deriving DecidableEq
def RelV : V → Value → Prop
  | .non, u => u = Value.none
  | .bl b, u => u = Value.bool b
  | .int i, u => ∃ t, u = Value.int i t
  | .str x, u => ∃ t, u = Value.str x t
  | .byt b, u => ∃ t, u = Value.bytes b t
  | .flt b, u => ∃ t, u = Value.float b t
  | .ref a, u => u = Value.ref a
  | .ty n, u => u = Value.type n
abbrev Vals : List V → List Value → Prop := Paired RelV
theorem Vals.length {xs : List V} {us : List Value} (r : Vals xs us) : xs.length = us.length := Paired.length r
theorem Vals.get : ∀ {xs : List V} {us : List Value} {i : Nat} {x : V}, Vals xs us → xs[i]? = some x → ∃ u, us[i]? = some u ∧ RelV x u
  | _, _, _, _, .nil, e => by simp at e
  | _, _, 0, _, .cons r _, e => by simp at e; subst e; exact ⟨_, rfl, r⟩
  | _, _, i + 1, x, .cons _ t, e => by
    obtain ⟨u, h1, h2⟩ := Vals.get (i := i) (x := x) t (by simpa using e)
    exact ⟨u, by simpa using h1, h2⟩
theorem Vals.set {x : V} {u : Value} (r : RelV x u) : ∀ {xs : List V} {us : List Value} (i : Nat), Vals xs us → Vals (xs.set i x) (us.set i u)
  | _, _, _, .nil => .nil
  | _, _, 0, .cons _ t => .cons r t
  | _, _, i + 1, .cons q t => .cons q (Vals.set r i t)
theorem Vals.append : ∀ {xs ys : List V} {us ws : List Value}, Vals xs us → Vals ys ws → Vals (xs ++ ys) (us ++ ws)
  | _, _, _, _, .nil, s => s
  | _, _, _, _, .cons r t, s => .cons r (Vals.append t s)
theorem Vals.take : ∀ {xs : List V} {us : List Value} (n : Nat), Vals xs us → Vals (xs.take n) (us.take n)
  | _, _, 0, _ => .nil
  | _, _, _ + 1, .nil => .nil
  | _, _, n + 1, .cons r t => .cons r (Vals.take n t)
theorem Vals.drop : ∀ {xs : List V} {us : List Value} (n : Nat), Vals xs us → Vals (xs.drop n) (us.drop n)
  | _, _, 0, r => r
  | _, _, _ + 1, .nil => .nil
  | _, _, n + 1, .cons _ t => Vals.drop n t
theorem Vals.none_of : ∀ {xs : List V} {us : List Value} {i : Nat}, Vals xs us → xs[i]? = none → us[i]? = none := fun {xs us i} r e => by
  have h1 := r.length
  have h2 : xs.length ≤ i := List.getElem?_eq_none_iff.mp e
  exact List.getElem?_eq_none_iff.mpr (by omega)
def RelO : Option V → Option Value → Prop
  | some v, some u => RelV v u
  | none, none => True
  | _, _ => False
def KV {κ : Type} : List (κ × V) → List (κ × Value) → Prop := Paired fun (p : κ × V) (q : κ × Value) => p.1 = q.1 ∧ RelV p.2 q.2
/-- a key of a dict (00_mix): an int or a text -/
def kV : Key → V
  | .inl i => .int i
  | .inr x => .str x
/-- what stands at a tracked address -/
inductive HO where
  /-- a list -/
  | lst (xs : List V)
  /-- a tuple (never changes) -/
  | tup (xs : List V)
  /-- a dict whose keys are ints and texts; one whose keys are tuples of ints and texts (the empty one is both) -/
  | dK (kvs : List (Key × V)) | dT (kvs : List (List Key × V))
  /-- a set of ints: its members, its size -/
  | set (S : Int → Bool) (n : Nat)
  /-- an instance of the class at C, its dict at dx, its attributes -/
  | ins (C dx : Addr) (fs : List (Str × V))
  /-- the dict of the instance at x -/
  | own (x : Addr)
  /-- the dict of an exception -/
  | xd (fs : List (Str × V))
  /-- a bound method, f of x -/
  | met (f x : Addr)
  /-- a range object lo, lo + 1, .. below hi -/
  | rng (lo hi : Int)
  /-- a thing that is known to the object (the script; a dict while a loop walks it): read, never written while it is so -/
  | frz (o : Obj) (u : HO)
  /-- a code object's table -/
  | tbl (ps : Array Value)
  /-- any other thing, by what is true of its one object (a def of one's own: SetO a S n := HO.ext fun h => ..) -/
  | ext (φ : Heap → Prop)
abbrev Hp := Addr → Option HO
def upd (H : Hp) (a : Addr) (o : HO) : Hp := fun b => if b = a then some o else H b
theorem upd_same {H : Hp} {a : Addr} {o : HO} : upd H a o a = some o := by unfold upd; rw [if_pos rfl]
theorem upd_ne {H : Hp} {a b : Addr} {o : HO} (h : b ≠ a) : upd H a o b = H b := by unfold upd; rw [if_neg h]
/-- two objects of different content stand apart -/
theorem ne_of {H : Hp} {a b : Addr} {o u : HO} (h : H a = some o) (h' : H b = some u) (d : o ≠ u) : a ≠ b := by
  intro e; subst e; rw [h] at h'; exact d (Option.some.inj h')
theorem ne_of_none {H : Hp} {a b : Addr} {o : HO} (h : H a = some o) (h' : H b = none) : a ≠ b := by
  intro e; subst e; rw [h] at h'; cases h'
section
variable (P : Program) (w : World)
def ObjOk (H : Hp) (h : Heap) (a : Addr) : HO → Prop
  | .lst xs => xs.length ≤ sizeLine ∧ ∃ (its : List Value) (n : Nat), Vals xs its ∧ h.get? a = some { cls := .type "list", data := .seq its.toArray n }
  | .tup xs => xs.length ≤ sizeLine ∧ ∃ its : List Value, Vals xs its ∧ IsTup h a its.toArray
  | .dK kvs => kvs.length ≤ sizeLine ∧ (a == sysModules) = false ∧ ∃ vs, KV kvs vs ∧ h.DictOf (mixKind P w) a vs
  | .dT kvs => kvs.length ≤ sizeLine ∧ (a == sysModules) = false ∧ ∃ xs : List (List Key × Addr × Value),
      Paired (fun (p : List Key × V) (q : List Key × Addr × Value) => p.1 = q.1 ∧ H q.2.1 = some (.tup (p.1.map kV)) ∧ RelV p.2 q.2.2) kvs xs ∧
      ∃ o es ep, h.get? a = some o ∧ o.ExactDict ∧ o.data = .dict es ep ∧ es.toList = xs.map (entryOfKey (tupleKind (mixKind P w))) ∧ (xs.map (·.1)).Nodup
  | .set S n => h.SetOf (intKind P w) a S n
  | .ins C dx fs => H dx = some (.own a) ∧ fs.length ≤ 1000 ∧ dx ≠ a ∧ h.get? a = some (PySem.W.instObj C dx) ∧
      ∃ mA, h.Ns1 dx mA ∧ (∀ f, RelO (fs.lookup f) (mA f)) ∧ PySem.Within mA (fs.map (·.1))
  | .own _ => ∃ o, h.get? a = some o
  | .xd fs => ∃ mA, h.Ns1 a mA ∧ ∀ f, RelO (fs.lookup f) (mA f)
  | .rng lo hi => ∃ t u v, h.get? a = some { cls := .type "range", data := .fields #[.int lo t, .int hi u, .int 1 v] }
  | .frz o u => h.get? a = some o ∧ ObjOk H h a u
  | .tbl ps => h.get? a = some { cls := .none, data := .fields ps }
  | .met f x => h.get? a = some (PySem.W.methodObj (.ref f) (.ref x))
  | .ext φ => φ h ∧ (∃ o, h.get? a = some o) ∧ ∀ h1 h2 : Heap, φ h1 → (∀ o, h1.get? a = some o → h2.get? a = some o) → φ h2
/-- the abstract heap is held -/
def HOk (H : Hp) (h : Heap) : Prop := ∀ a o, H a = some o → ObjOk P w H h a o
end
section
variable {P : Program} {w : World} {H H' : Hp} {h h' : Heap} {a : Addr} {o : HO}
theorem ObjOk.lt (x : ObjOk P w H h a o) : a < h.objs.size := by
  cases o with
  | lst xs => obtain ⟨_, _, _, _, e⟩ := x; exact Heap.lt_size e
  | tup xs => obtain ⟨_, _, _, p⟩ := x; exact p.lt
  | dK kvs => obtain ⟨_, _, _, _, o, _, _, e, _⟩ := x; exact Heap.lt_size e
  | dT kvs => obtain ⟨_, _, _, _, o, _, _, e, _⟩ := x; exact Heap.lt_size e
  | set S n => obtain ⟨o, _, _, _, e, _⟩ := x; exact Heap.lt_size e
  | ins C dx fs => obtain ⟨_, _, _, e, _⟩ := x; exact Heap.lt_size e
  | own y => obtain ⟨_, e⟩ := x; exact Heap.lt_size e
  | xd fs => obtain ⟨_, ⟨_, _, _, e, _⟩, _⟩ := x; exact Heap.lt_size e
  | rng lo hi => obtain ⟨_, _, _, e⟩ := x; exact Heap.lt_size e
  | frz ob u => obtain ⟨e, _⟩ := x; exact Heap.lt_size e
  | tbl ps => exact Heap.lt_size (show h.get? a = some _ from x)
  | met f y => exact Heap.lt_size (show h.get? a = some _ from x)
  | ext φ => obtain ⟨_, ⟨_, e⟩, _⟩ := x; exact Heap.lt_size e
theorem Paired.mapP {α β : Type} {F G : α → β → Prop} : ∀ {l₁ : List α} {l₂ : List β}, Paired F l₁ l₂ → (∀ a b, F a b → G a b) → Paired G l₁ l₂
  | _, _, .nil, _ => .nil
  | _, _, .cons r t, f => .cons (f _ _ r) (Paired.mapP t f)
/-- what an object's description leans on: its own object, its own dict, the tuples -/
theorem ObjOk.stay (x : ObjOk P w H h a o) (k : ∀ b u, (b = a ∨ H b = some (.own a)) → h.get? b = some u → h'.get? b = some u)
    (ho : ∀ b, H b = some (.own a) → H' b = some (.own a)) (ht : ∀ b xs, H b = some (.tup xs) → H' b = some (.tup xs)) : ObjOk P w H' h' a o := by
  induction o with
  | lst xs => obtain ⟨z, its, n, r, e⟩ := x; exact ⟨z, its, n, r, k _ _ (.inl rfl) e⟩
  | tup xs => obtain ⟨z, its, r, ob, e, c⟩ := x; exact ⟨z, its, r, ob, k _ _ (.inl rfl) e, c⟩
  | dK kvs => obtain ⟨z, y, vs, r, ob, es, ep, e, c⟩ := x; exact ⟨z, y, vs, r, ob, es, ep, k _ _ (.inl rfl) e, c⟩
  | dT kvs =>
    obtain ⟨z, y, xs, r, ob, es, ep, e, c⟩ := x
    exact ⟨z, y, xs, Paired.mapP r fun p q z => ⟨z.1, ht _ _ z.2.1, z.2.2⟩, ob, es, ep, k _ _ (.inl rfl) e, c⟩
  | set S n => obtain ⟨ob, es, ep, t, e, c⟩ := x; exact ⟨ob, es, ep, t, k _ _ (.inl rfl) e, c⟩
  | ins C dx fs =>
    obtain ⟨d, z, ne, e, mA, ⟨od, es, ep, e2, c⟩, r⟩ := x
    exact ⟨ho _ d, z, ne, k _ _ (.inl rfl) e, mA, ⟨od, es, ep, k _ _ (.inr d) e2, c⟩, r⟩
  | own y => obtain ⟨ob, e⟩ := x; exact ⟨ob, k _ _ (.inl rfl) e⟩
  | xd fs => obtain ⟨mA, ⟨od, es, ep, e, c⟩, r⟩ := x; exact ⟨mA, ⟨od, es, ep, k _ _ (.inl rfl) e, c⟩, r⟩
  | rng lo hi => obtain ⟨t, u, v, e⟩ := x; exact ⟨t, u, v, k _ _ (.inl rfl) e⟩
  | frz ob u ih => obtain ⟨e, q⟩ := x; exact ⟨k _ _ (.inl rfl) e, ih q⟩
  | tbl ps =>
    have e : h.get? a = some { cls := .none, data := .fields ps } := x
    show h'.get? a = some { cls := .none, data := .fields ps }
    exact k a _ (.inl rfl) e
  | met f y =>
    have e : h.get? a = some (PySem.W.methodObj (.ref f) (.ref y)) := x
    show h'.get? a = some (PySem.W.methodObj (.ref f) (.ref y))
    exact k a _ (.inl rfl) e
  | ext φ => obtain ⟨p, ⟨o, e⟩, st⟩ := x; exact ⟨st _ _ p fun o q => k _ _ (.inl rfl) q, ⟨o, k _ _ (.inl rfl) e⟩, st⟩
theorem HOk.lt (x : HOk P w H h) (e : H a = some o) : a < h.objs.size := (x a o e).lt
theorem HOk.fresh (x : HOk P w H h) (e : h.objs.size ≤ a) : H a = none := by
  cases q : H a with
  | none => rfl
  | some u => exact absurd (Nat.lt_of_lt_of_le (x.lt q) e) (Nat.lt_irrefl _)
/-- every object of the heap is kept -/
theorem HOk.kept (x : HOk P w H h) (k : ∀ b u, h.get? b = some u → h'.get? b = some u) : HOk P w H h' := fun a o e =>
  (x a o e).stay (fun b u _ q => k b u q) (fun _ q => q) fun _ _ q => q
/-- a new object is laid and tracked -/
theorem HOk.laid (x : HOk P w H h) (k : ∀ b u, h.get? b = some u → h'.get? b = some u) (hp : h.objs.size ≤ a) (new : ObjOk P w (upd H a o) h' a o) : HOk P w (upd H a o) h' := fun b u e => by
  have hn := x.fresh hp
  by_cases hb : b = a
  · subst hb; rw [upd_same] at e; cases e; exact new
  · rw [upd_ne hb] at e
    exact (x b u e).stay (fun c v _ q => k c v q) (fun c q => by rw [upd_ne (ne_of_none q hn)]; exact q) fun c xs q => by rw [upd_ne (ne_of_none q hn)]; exact q
end
/-- what may be read as u: it is u, or a known u -/
def Rd (H : Hp) (a : Addr) (u : HO) : Prop := H a = some u ∨ ∃ o, H a = some (.frz o u)
theorem Rd.of {H : Hp} {a : Addr} {u : HO} (h : H a = some u) : Rd H a u := .inl h
theorem Rd.ok {P : Program} {w : World} {H : Hp} {h : Heap} {a : Addr} {u : HO} (r : Rd H a u) (x : HOk P w H h) : ObjOk P w H h a u := by
  rcases r with r | ⟨o, r⟩
  · exact x a u r
  · obtain ⟨_, q⟩ := x a _ r
    exact q
/-- what may be written -/
def Mut : Option HO → Prop
  | some (.lst _) => True
  | some (.dK _) => True
  | some (.dT _) => True
  | some (.set _ _) => True
  | some (.ins _ _ _) => True
  | some (.ext _) => True
  | _ => False
section
variable {P : Program} {w : World} {H : Hp} {h h' : Heap} {x e : Addr} {o' : HO}
/-- the object at e is changed: x itself, or the dict of the instance x -/
theorem HOk.write (ok : HOk P w H h) (mu : Mut (H x)) (he : e = x ∨ H e = some (.own x)) (k : ∀ b u, b ≠ e → h.get? b = some u → h'.get? b = some u) (heo : ∃ u, h'.get? e = some u)
    (new : ObjOk P w (upd H x o') h' x o') : HOk P w (upd H x o') h' := fun b u q => by
  have nown : ∀ c y, H c = some (.own y) → c ≠ x := fun c y r z => by subst z; rw [r] at mu; exact mu
  have ntup : ∀ c xs, H c = some (.tup xs) → c ≠ x := fun c xs r z => by subst z; rw [r] at mu; exact mu
  by_cases hb : b = x
  · subst hb; rw [upd_same] at q; cases q; exact new
  · rw [upd_ne hb] at q
    by_cases hbe : b = e
    · have q' : H b = some (.own x) := by
        rcases he with z | z
        · exact absurd (hbe.trans z) hb
        · rw [hbe]; exact z
      rw [q] at q'; cases q'
      obtain ⟨v, hv⟩ := heo
      exact ⟨v, by rw [hbe]; exact hv⟩
    · refine (ok b u q).stay (fun c v hc r => k c v ?_ r) (fun c r => by rw [upd_ne (nown c b r)]; exact r) fun c xs r => by rw [upd_ne (ntup c xs r)]; exact r
      rcases hc with rfl | hc
      · exact hbe
      · rintro rfl
        rcases he with z | z
        · exact nown c b hc z
        · rw [hc] at z; cases z; exact hb rfl
end
/-! ### kept unless tracked; of the frames at fs (the callers') the slots may change (an exception that passes writes there); of the records at ex (iterators) nothing is said -/
structure Un (fs ex : List Addr) (H H' : Hp) (h h' : Heap) : Prop where
  keep : ∀ b o, h.get? b = some o → H b = none → b ∉ fs → b ∉ ex → h'.get? b = some o
  slot : ∀ b o, h.get? b = some o → H b = none → b ∈ fs → b ∉ ex → ∃ sl, h'.get? b = some { o with slots := sl }
  free : ∀ b o, h.get? b = some o → H b = none → b ∉ ex → H' b = none
  there : ∀ b o, h.get? b = some o → b ∉ ex → ∃ o', h'.get? b = some o'
  tups : ∀ b xs, H b = some (.tup xs) → H' b = some (.tup xs)
  frzs : ∀ b o u, H b = some (.frz o u) → H' b = some (.frz o u)
  tbls : ∀ b ps, H b = some (.tbl ps) → ∃ more, H' b = some (.tbl (ps ++ more))
section
variable {fs fs' ex ex' : List Addr} {H H1 H2 : Hp} {h h1 h2 h' : Heap} {a x e : Addr} {o : HO}
theorem Un.any (u : Un fs ex H H1 h h1) {b : Addr} {ob : Obj} (q : h.get? b = some ob) (n : H b = none) (hx : b ∉ ex) : ∃ sl, h1.get? b = some { ob with slots := sl } := by
  by_cases hb : b ∈ fs
  · exact u.slot b ob q n hb hx
  · exact ⟨ob.slots, u.keep b ob q n hb hx⟩
theorem Un.trans (a : Un fs ex H H1 h h1) (b : Un fs ex H1 H2 h1 h2) : Un fs ex H H2 h h2 where
  keep := fun c ob q n hc hx => b.keep c ob (a.keep c ob q n hc hx) (a.free c ob q n hx) hc hx
  slot := fun c ob q n hc hx => by
    obtain ⟨sl, e1⟩ := a.slot c ob q n hc hx
    obtain ⟨sl', e2⟩ := b.slot c _ e1 (a.free c ob q n hx) hc hx
    exact ⟨sl', e2⟩
  free := fun c ob q n hx => by
    obtain ⟨o', e1⟩ := a.there c ob q hx
    exact b.free c o' e1 (a.free c ob q n hx) hx
  there := fun c ob q hx => by
    obtain ⟨o', e1⟩ := a.there c ob q hx
    exact b.there c o' e1 hx
  tups := fun c xs q => b.tups c xs (a.tups c xs q)
  frzs := fun c ob xs q => b.frzs c ob xs (a.frzs c ob xs q)
  tbls := fun c ps q => by
    obtain ⟨m1, e1⟩ := a.tbls c ps q
    obtain ⟨m2, e2⟩ := b.tbls c _ e1
    exact ⟨m1 ++ m2, by rw [e2, Array.append_assoc]⟩
theorem Un.kept (k : ∀ b u, h.get? b = some u → h'.get? b = some u) : Un fs ex H H h h' :=
  ⟨fun b ob q _ _ _ => k b ob q, fun b ob q _ _ _ => ⟨ob.slots, k b ob q⟩, fun _ _ _ n _ => n, fun b ob q _ => ⟨ob, k b ob q⟩, fun _ _ q => q, fun _ _ _ q => q, fun _ ps q => ⟨#[], by rw [q]; simp⟩⟩
theorem Un.refl : Un fs ex H H h h := Un.kept fun _ _ q => q
theorem Un.laid (k : ∀ b u, h.get? b = some u → h'.get? b = some u) (hp : h.objs.size ≤ a) (hn : H a = none) : Un fs ex H (upd H a o) h h' where
  keep := fun b u q _ _ _ => k b u q
  slot := fun b u q _ _ _ => ⟨u.slots, k b u q⟩
  free := fun b u q n _ => by rw [upd_ne (Nat.ne_of_lt (Nat.lt_of_lt_of_le (Heap.lt_size q) hp))]; exact n
  there := fun b u q _ => ⟨u, k b u q⟩
  tups := fun b xs q => by rw [upd_ne (ne_of_none q hn)]; exact q
  frzs := fun b u xs q => by rw [upd_ne (ne_of_none q hn)]; exact q
  tbls := fun b ps q => ⟨#[], by rw [upd_ne (ne_of_none q hn), q]; simp⟩
theorem Un.write (mu : Mut (H x)) (he : e = x ∨ H e = some (.own x)) (k : ∀ b u, b ≠ e → h.get? b = some u → h'.get? b = some u) (heo : ∃ u, h'.get? e = some u) : Un fs ex H (upd H x o) h h' := by
  have hx : ∀ b, H b = none → b ≠ x := fun b n z => by subst z; rw [n] at mu; exact mu
  have hb : ∀ b, H b = none → b ≠ e := fun b n z => by
    subst z
    rcases he with r | r
    · exact hx b n r
    · rw [n] at r; cases r
  have hm : ∀ b u, H b = some u → ¬ Mut (some u) → b ≠ x := fun b u q nm z => by subst z; rw [q] at mu; exact nm mu
  refine ⟨fun b u q n _ _ => k b u (hb b n) q, fun b u q n _ _ => ⟨u.slots, k b u (hb b n) q⟩, fun b u q n _ => by rw [upd_ne (hx b n)]; exact n, fun b u q _ => ?_,
    fun b xs q => by rw [upd_ne (hm b _ q fun z => z)]; exact q, fun b u xs q => by rw [upd_ne (hm b _ q fun z => z)]; exact q, fun b ps q => ⟨#[], by rw [upd_ne (hm b _ q fun z => z), q]; simp⟩⟩
  by_cases hbe : b = e
  · subst hbe; exact heo
  · exact ⟨u, k b u hbe q⟩
theorem Un.mono (u : Un fs ex H H1 h h1) (hs : ∀ b ∈ fs, b ∈ fs') (hx : ∀ b ∈ ex, b ∈ ex') : Un fs' ex' H H1 h h1 :=
  ⟨fun b ob q n hb he => u.keep b ob q n (fun z => hb (hs b z)) fun z => he (hx b z), fun _ _ q n _ he => u.any q n fun z => he (hx _ z), fun b ob q n he => u.free b ob q n fun z => he (hx b z), fun b ob q he => u.there b ob q fun z => he (hx b z), u.tups, u.frzs, u.tbls⟩
end
/-! ### the heap without what is tracked -/
def trk (h : Heap) (H : Hp) : List Addr := (List.range h.objs.size).filter fun a => (H a).isSome
def hidT (h : Heap) (H : Hp) : Heap := PySem.W.hideAll h (trk h H)
theorem hidT_size (h : Heap) (H : Hp) : (hidT h H).objs.size = h.objs.size := PySem.W.hideAll_size _ _
theorem hidT_get {h : Heap} {H : Hp} {b : Addr} {o : Obj} (e : h.get? b = some o) (n : H b = none) : (hidT h H).get? b = some o :=
  PySem.W.hideAll_get _ e fun hm => by
    have q : (H b).isSome = true := (List.mem_filter.mp hm).2
    rw [n] at q; simp at q
theorem of_hidT {h : Heap} {H : Hp} {b : Addr} {o : Obj} (e : (hidT h H).get? b = some o) : h.get? b = some o ∧ H b = none := by
  have e' : h.get? b = some o := PySem.W.of_hideAll (trk h H) e
  refine ⟨e', ?_⟩
  cases q : H b with
  | none => rfl
  | some x =>
    have hm : b ∈ trk h H := List.mem_filter.mpr ⟨List.mem_range.mpr (Heap.lt_size e'), by simp [q]⟩
    have z : (hidT h H).get? b = none := PySem.W.hideAll_none (trk h H) hm
    rw [z] at e; cases e
/-! ### OpenK's ledger, filled with every new object but one -/
def allNews (g h : Heap) (L : Addr) : List (Addr × Obj) := (List.range h.objs.size).filterMap fun a => if a = L ∨ (g.get? a).isSome = true then none else (h.get? a).map fun o => (a, o)
def rest (g h : Heap) (L d : Addr) : List (Addr × Obj) := (allNews g h L).filter fun p => decide (p.1 ≠ d)
end L2
namespace L2
open PySem PySem.Spec PyProof.Rows
/-- the module's facts, over the base: the heap at the law's entry without what is tracked there -/
structure Mod (K : PySem.W.Frag) (mg : Str → Option Value) (base : Heap) : Prop where
  kin : K.In base
  glob : base.Ns mainGlobals mg
  blt : ∃ mb, base.Ns builtinsNs mb ∧ ∀ x : Str, x ≠ "__name__" → mb x = bootBuiltins x
  nolimit : base.NoLimit
/-- the context: a def's body (or a comprehension's block) running. base: fixed through the whole law; s₀, H₀: the entry; outer: the frames whose slots others may change (a def's callers); stack: all frames that run;
   ex: iterators that were made ahead of the entry and are walked here (a comprehension's); fn: the names whose cells were made at the entry (a def: all; a comprehension's block: its own); calm: not within an except suite; pn: pins that every state bears; xe: what is wanted of an exception that leaves the code -/
structure Cx where
  prog : Program
  w : World
  K : PySem.W.Frag
  mg : Str → Option Value
  base : Heap
  A : Around
  N : List Str
  s₀ : Shared
  H₀ : Hp
  env : Env
  outer : List Env
  stack : List Env
  ex : List Addr
  fn : Str → Bool
  calm : Bool
  pn : List (Addr × Obj)
  xe : Value → Shared → Prop
/-- the callers' frames -/
def frs (l : List Env) : List Addr := l.filterMap (·.frame)
abbrev Cx.fs (X : Cx) : List Addr := frs X.outer
def Vis (sc : Scope) (x : Str) : Prop := sc.names.lookup x = some .local ∨ sc.names.lookup x = some .cell ∨ sc.names.lookup x = some .free
def Loc (sc : Scope) (x : Str) : Prop := sc.names.lookup x = some .local ∨ sc.names.lookup x = some .cell
def Look (env : Env) (h : Heap) (m : Str → Option Value) (x : Str) (u : Value) : Prop :=
  (env.kindOf x = some .local ∧ m x = some u) ∨ ((env.kindOf x = some .cell ∨ env.kindOf x = some .free) ∧ ∃ c, env.cells.lookup x = some c ∧ h.IsCell c (some u))
structure Cx.Ok (X : Cx) : Prop where
  mod : Mod X.K X.mg X.base
  kind : X.env.scope.kind = .function
  glob : X.env.globals = mainGlobals
  blt : X.env.builtins = builtinsNs
  above : X.s₀.heap.objs.size ≤ X.env.locals
  inj : ∀ x y c, X.env.cells.lookup x = some c → X.env.cells.lookup y = some c → x = y
  has : ∀ x, (X.env.kindOf x = some .cell ∨ X.env.kindOf x = some .free) → ∃ c, X.env.cells.lookup x = some c
  cab : ∀ x c, X.fn x = true → X.env.cells.lookup x = some c → X.s₀.heap.objs.size ≤ c
  hd : X.calm = true → X.A.handled = none
  frames : X.A.frames = some X.stack
  stk : X.stack = X.outer ∨ (X.stack = X.env :: X.outer ∧ X.env.frame = some X.env.locals)
  exf : ∀ b ∈ X.ex, b ≠ X.env.locals ∧ ∀ x c, X.env.cells.lookup x = some c → c ≠ b
  bs : ∀ b o, X.base.get? b = some o → X.s₀.heap.get? b = some o ∧ X.H₀ b = none
  bsz : X.base.objs.size ≤ X.s₀.heap.objs.size
  noex : ∀ b o, X.base.get? b = some o → b ∉ X.ex
  exfs : ∀ b ∈ X.ex, b ∉ X.fs
  funs : X.s₀.heap.FunFrames X.base X.outer
  frf : ∀ b ∈ X.fs, X.H₀ b = none
structure Inv (X : Cx) (pins : List (Addr × Obj)) (σ : List (Option V)) (H : Hp) (s : Shared) : Prop where
  ok : X.Ok
  os : s.os = X.s₀.os
  bare : AllBare s.gens
  base : Un X.fs X.ex X.H₀ H X.s₀.heap s.heap
  loc : ∃ m, s.heap.Ns X.env.locals m ∧ ∀ (i : Nat) (x : Str) (v : V), X.N[i]? = some x → σ[i]? = some (some v) → Vis X.env.scope x → ∃ u, RelV v u ∧ Look X.env s.heap m x u
  cell : ∀ x c, X.env.cells.lookup x = some c → ∃ v, s.heap.IsCell c v
  free : H X.env.locals = none
  freeC : ∀ x c, X.env.cells.lookup x = some c → H c = none
  pin : ∀ p ∈ X.pn ++ pins, s.heap.get? p.1 = some p.2 ∧ H p.1 = none ∧ p.1 ≠ X.env.locals ∧ p.1 ∉ X.fs ∧ ∀ v, p.2.data ≠ .cell v
  hok : HOk X.prog X.w H s.heap
  len : σ.length = X.N.length
section
variable {X : Cx} {pins : List (Addr × Obj)} {σ : List (Option V)} {H H' : Hp} {s : Shared} {h' : Heap}
theorem Cx.Ok.nofr (ok : X.Ok) {b : Addr} {o : Obj} (e : X.base.get? b = some o) : b ∉ X.fs := fun hb => by
  have := (ok.funs.mem hb).1
  rw [e] at this; cases this
theorem Inv.bs (I : Inv X pins σ H s) : ∀ b o, X.base.get? b = some o → s.heap.get? b = some o ∧ H b = none := fun b o e =>
  ⟨I.base.keep b o (I.ok.bs b o e).1 (I.ok.bs b o e).2 (I.ok.nofr e) (I.ok.noex b o e), I.base.free b o (I.ok.bs b o e).1 (I.ok.bs b o e).2 (I.ok.noex b o e)⟩
theorem Inv.bk (I : Inv X pins σ H s) : ∀ b o, X.base.get? b = some o → s.heap.get? b = some o := fun b o e => (I.bs b o e).1
theorem Inv.mod (I : Inv X pins σ H s) : Mod X.K X.mg X.base := I.ok.mod
theorem Inv.kIn (I : Inv X pins σ H s) : X.K.In s.heap := I.ok.mod.kin.keeps I.bk
theorem Inv.nolimit (I : Inv X pins σ H s) : s.heap.NoLimit := I.ok.mod.nolimit.keeps I.bk
/-- the frame over the base: for OpenK's rules (K.In X.base is I.mod.kin) -/
theorem Inv.fr (I : Inv X pins σ H s) : ∃ m, Fr X.base X.env.locals s.heap m :=
  let ⟨m, hn, _⟩ := I.loc
  ⟨m, hn, I.bk, Nat.le_trans I.ok.bsz I.ok.above⟩
theorem Inv.lt (I : Inv X pins σ H s) : X.env.locals < s.heap.objs.size := let ⟨_, hn, _⟩ := I.loc; hn.lt
theorem Inv.sz (I : Inv X pins σ H s) : X.s₀.heap.objs.size ≤ s.heap.objs.size := Nat.le_trans I.ok.above (Nat.le_of_lt I.lt)
theorem Inv.nofs (I : Inv X pins σ H s) {a : Addr} (h : s.heap.objs.size ≤ a) : a ∉ X.fs := fun hb => by
  obtain ⟨_, o, ho, _⟩ := I.ok.funs.mem hb
  exact absurd (Nat.lt_of_lt_of_le (Heap.lt_size ho) (Nat.le_trans I.sz h)) (Nat.lt_irrefl _)
theorem Inv.cne (I : Inv X pins σ H s) : ∀ x c, X.env.cells.lookup x = some c → c ≠ X.env.locals := fun x c e z => by
  obtain ⟨v, o, ho, hd⟩ := I.cell x c e
  obtain ⟨m, ⟨o', es, ep, ho', hd', _⟩, _⟩ := I.loc
  rw [z, ho'] at ho; cases ho; rw [hd'] at hd; cases hd
theorem Inv.funs (I : Inv X pins σ H s) : s.heap.FunFrames X.base X.outer := by
  have all : ∀ (l : List Env), (∀ b ∈ frs l, b ∈ X.fs) → X.s₀.heap.FunFrames X.base l → s.heap.FunFrames X.base l := by
    intro l
    induction l with
    | nil => intro _ _; trivial
    | cons env r ih =>
      intro hs hl
      obtain ⟨hk, ⟨L, o, hf, hn, ho, hd⟩, hr⟩ := hl
      have hL : L ∈ X.fs := hs L (by unfold frs; rw [List.filterMap_cons, hf]; exact List.mem_cons_self)
      obtain ⟨sl, e⟩ := I.base.slot L o ho (I.ok.frf L hL) hL fun z => I.ok.exfs L z hL
      exact ⟨hk, ⟨L, _, hf, hn, e, hd⟩, ih (fun b hb => hs b (by unfold frs; rw [List.filterMap_cons, hf]; exact List.mem_cons_of_mem _ hb)) hr⟩
  exact all X.outer (fun _ hb => hb) I.ok.funs
/-- the frames that run, for a call -/
theorem Inv.stack (I : Inv X pins σ H s) : s.heap.FunFrames X.base X.stack := by
  rcases I.ok.stk with e | ⟨e, hf⟩
  · rw [e]; exact I.funs
  · rw [e]
    obtain ⟨m, hn, _⟩ := I.loc
    refine .cons (by rw [I.ok.kind]; decide) hf hn ?_ I.funs
    exact Heap.get?_none_of_le (Nat.le_trans I.ok.bsz I.ok.above)
theorem Inv.stkSub (I : Inv X pins σ H s) : ∀ b ∈ frs X.stack, b ∈ X.env.locals :: X.fs := fun b hb => by
  rcases I.ok.stk with e | ⟨e, hf⟩
  · rw [e] at hb; exact List.mem_cons_of_mem _ hb
  · rw [e] at hb
    unfold frs at hb
    rw [List.filterMap_cons, hf] at hb
    exact hb
theorem Inv.stkFree (I : Inv X pins σ H s) : ∀ b ∈ frs X.stack, H b = none := fun b hb => by
  rcases List.mem_cons.mp (I.stkSub b hb) with e | hb
  · rw [e]; exact I.free
  · obtain ⟨_, o, ho, _⟩ := I.ok.funs.mem hb
    exact I.base.free b o ho (I.ok.frf b hb) fun z => I.ok.exfs b z hb
/-- THE STEP: the untracked objects but the frame and the records at ch are kept (the callers' frames up to slots), the frame's map is kept, the new abstract heap is held -/
theorem Inv.step {g' : Array GenState} {t' : Nat} {d' : Drawn} {ch : List Addr} (I : Inv X pins σ H s)
    (hch : ∀ b ∈ ch, (b ∈ X.ex ∨ X.s₀.heap.objs.size ≤ b) ∧ b ≠ X.env.locals ∧ (∀ x c, X.env.cells.lookup x = some c → c ≠ b) ∧ ∀ p ∈ X.pn ++ pins, p.1 ≠ b)
    (keep : ∀ b o, b ≠ X.env.locals → b ∉ X.fs → b ∉ ch → s.heap.get? b = some o → H b = none → h'.get? b = some o)
    (slot : ∀ b o, b ≠ X.env.locals → b ∈ X.fs → b ∉ ch → s.heap.get? b = some o → H b = none → ∃ sl, h'.get? b = some { o with slots := sl }) (free : ∀ b o, b ∉ ch → s.heap.get? b = some o → H b = none → H' b = none)
    (there : ∀ b o, b ∉ ch → s.heap.get? b = some o → ∃ o', h'.get? b = some o')
    (tups : ∀ b xs, H b = some (.tup xs) → H' b = some (.tup xs)) (frzs : ∀ b o u, H b = some (.frz o u) → H' b = some (.frz o u)) (tbls : ∀ b ps, H b = some (.tbl ps) → ∃ more, H' b = some (.tbl (ps ++ more)))
    (ns : ∀ m, s.heap.Ns X.env.locals m → h'.Ns X.env.locals m) (hok : HOk X.prog X.w H' h') (hg : AllBare g') :
    Inv X pins σ H' { s with heap := h', gens := g', drawn := d', toks := t' } := by
  have neL : ∀ b o, X.s₀.heap.get? b = some o → b ≠ X.env.locals := fun b o e => Nat.ne_of_lt (Nat.lt_of_lt_of_le (Heap.lt_size e) I.ok.above)
  have neC : ∀ b o, X.s₀.heap.get? b = some o → b ∉ X.ex → b ∉ ch := fun b o e hx hb => by
    rcases (hch b hb).1 with z | z
    · exact hx z
    · exact absurd (Nat.lt_of_lt_of_le (Heap.lt_size e) z) (Nat.lt_irrefl _)
  have cellK : ∀ x c, X.env.cells.lookup x = some c → ∀ v, s.heap.IsCell c v → h'.IsCell c v := fun x c e v ⟨o, ho, hd⟩ => by
    have nch : c ∉ ch := fun z => (hch c z).2.2.1 x c e rfl
    by_cases hc : c ∈ X.fs
    · obtain ⟨sl, q⟩ := slot c o (I.cne x c e) hc nch ho (I.freeC x c e)
      exact ⟨_, q, hd⟩
    · exact ⟨o, keep c o (I.cne x c e) hc nch ho (I.freeC x c e), hd⟩
  refine ⟨I.ok, I.os, hg, ⟨fun b o e n hb hx => ?_, fun b o e n hb hx => ?_, fun b o e n hx => ?_, fun b o e hx => ?_, fun b xs e => tups b xs (I.base.tups b xs e), fun b o xs e => frzs b o xs (I.base.frzs b o xs e), fun b ps e => ?_⟩, ?_, fun x c e => ?_, ?_, fun x c e => ?_, fun p hp => ?_, hok, I.len⟩
  · exact keep b o (neL b o e) hb (neC b o e hx) (I.base.keep b o e n hb hx) (I.base.free b o e n hx)
  · obtain ⟨sl, e1⟩ := I.base.slot b o e n hb hx
    obtain ⟨sl', e2⟩ := slot b _ (neL b o e) hb (neC b o e hx) e1 (I.base.free b o e n hx)
    exact ⟨sl', e2⟩
  · obtain ⟨o', e1⟩ := I.base.there b o e hx
    exact free b o' (neC b o e hx) e1 (I.base.free b o e n hx)
  · obtain ⟨o', e1⟩ := I.base.there b o e hx
    exact there b o' (neC b o e hx) e1
  · obtain ⟨m1, e1⟩ := I.base.tbls b ps e
    obtain ⟨m2, e2⟩ := tbls b _ e1
    exact ⟨m1 ++ m2, by rw [e2, Array.append_assoc]⟩
  · obtain ⟨m, hn, hl⟩ := I.loc
    refine ⟨m, ns m hn, fun i x v e1 e2 e3 => ?_⟩
    obtain ⟨u, r, l⟩ := hl i x v e1 e2 e3
    refine ⟨u, r, ?_⟩
    rcases l with l | ⟨k, c, e, z⟩
    · exact .inl l
    · exact .inr ⟨k, c, e, cellK x c e _ z⟩
  · obtain ⟨v, z⟩ := I.cell x c e
    exact ⟨v, cellK x c e v z⟩
  · obtain ⟨m, ⟨o, _, _, ho, _⟩, _⟩ := I.loc
    exact free _ o (fun z => (hch _ z).2.1 rfl) ho I.free
  · obtain ⟨v, o, ho, hd⟩ := I.cell x c e
    exact free c o (fun z => (hch c z).2.2.1 x c e rfl) ho (I.freeC x c e)
  · obtain ⟨e, n, ne, nf, d⟩ := I.pin p hp
    have nch : p.1 ∉ ch := fun z => (hch p.1 z).2.2.2 p hp rfl
    exact ⟨keep p.1 p.2 ne nf nch e n, free p.1 p.2 nch e n, ne, nf, d⟩
/-- .. where the frame's own object is kept too -/
theorem Inv.un {t' : Nat} (I : Inv X pins σ H s) (u : Un X.fs [] H H' s.heap h') (hok : HOk X.prog X.w H' h') : Inv X pins σ H' { s with heap := h', toks := t' } := by
  obtain ⟨m, ⟨o, es, ep, ho, r⟩, _⟩ := id I.loc
  obtain ⟨sl, hL⟩ := u.any ho I.free (by simp)
  exact I.step (g' := s.gens) (d' := s.drawn) (ch := []) (fun _ z => nomatch z) (fun b o _ hb _ e n => u.keep b o e n hb (by simp)) (fun b o _ hb _ e n => u.slot b o e n hb (by simp)) (fun b o _ e n => u.free b o e n (by simp)) (fun b o _ e => u.there b o e (by simp)) u.tups u.frzs u.tbls (fun m' hm => by
    obtain ⟨o', es', ep', ho', r'⟩ := hm
    rw [ho] at ho'; cases ho'
    exact ⟨_, es', ep', hL, r'⟩) hok I.bare
/-- behind a call (or a comprehension's block): the slots of this frame may have changed too, the records at ch may have turned -/
theorem Inv.call {g' : Array GenState} {t' : Nat} {d' : Drawn} {ch : List Addr} (I : Inv X pins σ H s) (u : Un (frs X.stack) ch H H' s.heap h') (hok : HOk X.prog X.w H' h') (hg : AllBare g')
    (hch : ∀ b ∈ ch, (b ∈ X.ex ∨ X.s₀.heap.objs.size ≤ b) ∧ b ≠ X.env.locals ∧ (∀ x c, X.env.cells.lookup x = some c → c ≠ b) ∧ ∀ p ∈ X.pn ++ pins, p.1 ≠ b) :
    Inv X pins σ H' { s with heap := h', gens := g', drawn := d', toks := t' } := by
  obtain ⟨m, ⟨o, es, ep, ho, r⟩, _⟩ := id I.loc
  obtain ⟨sl, hL⟩ := u.any ho I.free fun z => (hch _ z).2.1 rfl
  exact I.step (ch := ch) hch (fun b o hL hb hc e n => u.keep b o e n (fun z => (List.mem_cons.mp (I.stkSub b z)).elim hL hb) hc) (fun b o _ _ hc e n => u.any e n hc) (fun b o hc e n => u.free b o e n hc) (fun b o hc e => u.there b o e hc) u.tups u.frzs u.tbls (fun m' hm => by
    obtain ⟨o', es', ep', ho', r'⟩ := hm
    rw [ho] at ho'; cases ho'
    exact ⟨_, es', ep', hL, r'⟩) hok hg
/-- an untracked record of ours (an iterator) has turned -/
theorem Inv.turned {t' : Nat} {it : Addr} (I : Inv X pins σ H s) (k : ∀ b o, b ≠ it → s.heap.get? b = some o → h'.get? b = some o) (hn : H it = none) (hL : it ≠ X.env.locals)
    (h1 : it ∈ X.ex ∨ X.s₀.heap.objs.size ≤ it) (h2 : ∀ x c, X.env.cells.lookup x = some c → c ≠ it) (h3 : ∀ p ∈ X.pn ++ pins, p.1 ≠ it) : Inv X pins σ H { s with heap := h', toks := t' } := by
  have nit : ∀ b u, H b = some u → b ≠ it := fun b u e z => by rw [z, hn] at e; cases e
  refine I.step (g' := s.gens) (d' := s.drawn) (ch := [it]) (fun b hb => ?_) (fun b o _ _ hc e _ => k b o (fun z => hc (by simp [z])) e) (fun b o _ _ hc e _ => ⟨o.slots, k b o (fun z => hc (by simp [z])) e⟩) (fun _ _ _ _ n => n)
    (fun b o hc e => ⟨o, k b o (fun z => hc (by simp [z])) e⟩) (fun _ _ e => e) (fun _ _ _ e => e) (fun b ps e => ⟨#[], by rw [e]; simp⟩) (fun m hm => ?_) (fun b u e => ?_) I.bare
  · have e : b = it := by simpa using hb
    subst e
    exact ⟨h1, hL, h2, h3⟩
  · obtain ⟨o, es, ep, ho, r⟩ := hm
    exact ⟨o, es, ep, k _ o (Ne.symm hL) ho, r⟩
  · refine (I.hok b u e).stay (fun c v hc q => k c v ?_ q) (fun _ q => q) fun _ _ q => q
    rcases hc with z | z
    · rw [z]; exact nit b u e
    · exact nit c _ z
theorem Inv.tok (I : Inv X pins σ H s) (t : Nat) : Inv X pins σ H { s with toks := t } := I.un (h' := s.heap) (t' := t) Un.refl I.hok
/-- all objects kept -/
theorem Inv.kept {t' : Nat} (I : Inv X pins σ H s) (k : ∀ b u, s.heap.get? b = some u → h'.get? b = some u) : Inv X pins σ H { s with heap := h', toks := t' } := I.un (Un.kept k) (I.hok.kept k)
/-- a new object laid and tracked -/
theorem Inv.laid {a : Addr} {o : HO} {t' : Nat} (I : Inv X pins σ H s) (k : ∀ b u, s.heap.get? b = some u → h'.get? b = some u) (hp : s.heap.objs.size ≤ a) (new : ObjOk X.prog X.w (upd H a o) h' a o) :
    Inv X pins σ (upd H a o) { s with heap := h', toks := t' } := I.un (Un.laid k hp (I.hok.fresh hp)) (I.hok.laid k hp new)
/-- an object written -/
theorem Inv.write {x e : Addr} {o : HO} {t' : Nat} (I : Inv X pins σ H s) (mu : Mut (H x)) (he : e = x ∨ H e = some (.own x)) (k : ∀ b u, b ≠ e → s.heap.get? b = some u → h'.get? b = some u) (heo : ∃ u, h'.get? e = some u)
    (new : ObjOk X.prog X.w (upd H x o) h' x o) : Inv X pins σ (upd H x o) { s with heap := h', toks := t' } := I.un (Un.write mu he k heo) (I.hok.write mu he k heo new)
theorem Inv.pins_of {pins' : List (Addr × Obj)} (I : Inv X pins σ H s) (h : ∀ p ∈ pins', s.heap.get? p.1 = some p.2 ∧ H p.1 = none ∧ p.1 ≠ X.env.locals ∧ p.1 ∉ X.fs ∧ ∀ v, p.2.data ≠ .cell v) : Inv X pins' σ H s :=
  ⟨I.ok, I.os, I.bare, I.base, I.loc, I.cell, I.free, I.freeC, fun p hp => (List.mem_append.mp hp).elim (fun z => I.pin p (List.mem_append_left _ z)) (h p), I.hok, I.len⟩
theorem nodup_ix {N : List Str} (hN : N.Nodup) {i j : Nat} {x : Str} (a : N[i]? = some x) (b : N[j]? = some x) : i = j := by
  obtain ⟨h1, e1⟩ := List.getElem?_eq_some_iff.mp a
  obtain ⟨h2, e2⟩ := List.getElem?_eq_some_iff.mp b
  exact (List.getElem_inj hN).mp (e1.trans e2.symm)
/-- a name is stored; what changed -/
theorem store_ok2 {M : Model} {A : Around} {E : Value → Shared → Prop} {i : Nat} {x : Str} {v : V} {u : Value} {Q : Unit → Shared → Prop} (I : Inv X pins σ H s) (hN : X.N.Nodup) (hi : X.N[i]? = some x) (hx : Loc X.env.scope x) (r : RelV v u)
    (h : ∀ s', Inv X pins (σ.set i (some v)) H s' → (∃ a, Heap.SameBut a s.heap s'.heap ∧ (a = X.env.locals ∨ X.env.cells.lookup x = some a)) → Q () s') (hf : X.fn x = true ∨ X.env.scope.names.lookup x = some .local := by first | exact .inl rfl | exact .inr rfl | assumption) : wpAny M A (storeName X.env x u) Q E s := by
  obtain ⟨m, hn, hl⟩ := id I.loc
  have hcls : (X.env.scope.kind == .class || (X.env.scope.kind == .module && X.env.locals != X.env.globals)) = false := by rw [I.ok.kind]; rfl
  have hiσ : i < σ.length := by rw [I.len]; exact (List.getElem?_eq_some_iff.mp hi).1
  have cne := I.cne
  have tracked : ∀ {a : Addr} {h' : Heap}, (∃ o, s.heap.get? a = some o ∧ H a = none) → Heap.SameBut a s.heap h' → HOk X.prog X.w H h' := fun {a h'} ha hs b ob e => by
    obtain ⟨_, _, hfree⟩ := ha
    refine (I.hok b ob e).stay (fun c w' hc q => (hs.2 c ?_).trans q) (fun _ q => q) fun _ _ q => q
    rintro rfl
    rcases hc with rfl | hc
    · rw [hfree] at e; cases e
    · rw [hfree] at hc; cases hc
  rcases hx with hk | hk
  · refine wpAny_storeName_local hk hn (fun h' hn' hs => ?_) hcls
    obtain ⟨oL, _, _, hoL, _⟩ := id hn
    refine h _ ⟨I.ok, I.os, I.bare, ⟨fun b o e n hb hx => ?_, fun b o e n hb hx => ?_, I.base.free, fun b o e hx => ?_, I.base.tups, I.base.frzs, I.base.tbls⟩, ⟨_, hn', fun j y v' e1 e2 e3 => ?_⟩, fun y c e => ?_, I.free, I.freeC, fun p hp => ?_, tracked ⟨oL, hoL, I.free⟩ hs, by simpa using I.len⟩ ⟨_, hs, .inl rfl⟩
    · exact (hs.2 b (Nat.ne_of_lt (Nat.lt_of_lt_of_le (Heap.lt_size e) I.ok.above))).trans (I.base.keep b o e n hb hx)
    · obtain ⟨sl, e1⟩ := I.base.slot b o e n hb hx
      exact ⟨sl, (hs.2 b (Nat.ne_of_lt (Nat.lt_of_lt_of_le (Heap.lt_size e) I.ok.above))).trans e1⟩
    · obtain ⟨o', e1⟩ := I.base.there b o e hx
      exact ⟨o', (hs.2 b (Nat.ne_of_lt (Nat.lt_of_lt_of_le (Heap.lt_size e) I.ok.above))).trans e1⟩
    · by_cases hj : j = i
      · subst hj
        rw [hi] at e1; cases e1
        rw [List.getElem?_set_self hiσ] at e2
        cases e2
        exact ⟨u, r, .inl ⟨hk, by simp⟩⟩
      · rw [List.getElem?_set_ne (Ne.symm hj)] at e2
        obtain ⟨u', r', q⟩ := hl j y v' e1 e2 e3
        refine ⟨u', r', ?_⟩
        rcases q with ⟨k, e⟩ | ⟨k, c, e, z⟩
        · refine .inl ⟨k, ?_⟩
          have : y ≠ x := fun e => hj (nodup_ix hN e1 (e ▸ hi))
          simp [this, e]
        · exact .inr ⟨k, c, e, z.sameBut hs (cne y c e)⟩
    · obtain ⟨w', z⟩ := I.cell y c e
      exact ⟨w', z.sameBut hs (cne y c e)⟩
    · obtain ⟨e, n, ne, nf, d⟩ := I.pin p hp
      exact ⟨(hs.2 p.1 ne).trans e, n, ne, nf, d⟩
  · have hfn : X.fn x = true := by
      rcases hf with z | z
      · exact z
      · rw [z] at hk; cases hk
    obtain ⟨c, hc⟩ := I.ok.has x (.inl hk)
    obtain ⟨w', z⟩ := I.cell x c hc
    refine wpAny_storeName_cell I.ok.kind hk hc z (fun h' hc' hs => ?_)
    obtain ⟨oc, hoc, hocd⟩ := id z
    refine h { s with heap := h' } ⟨I.ok, I.os, I.bare, ⟨fun b o e n hb hx => ?_, fun b o e n hb hx => ?_, I.base.free, fun b o e hx => ?_, I.base.tups, I.base.frzs, I.base.tbls⟩, ⟨m, hn.sameBut hs (Ne.symm (cne x c hc)), fun j y v' e1 e2 e3 => ?_⟩, fun y c' e => ?_, I.free, I.freeC, fun p hp => ?_, tracked ⟨oc, hoc, I.freeC x c hc⟩ hs, by simpa using I.len⟩ ⟨c, hs, .inr hc⟩
    · exact (hs.2 b (Nat.ne_of_lt (Nat.lt_of_lt_of_le (Heap.lt_size e) (I.ok.cab x c hfn hc)))).trans (I.base.keep b o e n hb hx)
    · obtain ⟨sl, e1⟩ := I.base.slot b o e n hb hx
      exact ⟨sl, (hs.2 b (Nat.ne_of_lt (Nat.lt_of_lt_of_le (Heap.lt_size e) (I.ok.cab x c hfn hc)))).trans e1⟩
    · obtain ⟨o', e1⟩ := I.base.there b o e hx
      exact ⟨o', (hs.2 b (Nat.ne_of_lt (Nat.lt_of_lt_of_le (Heap.lt_size e) (I.ok.cab x c hfn hc)))).trans e1⟩
    · by_cases hj : j = i
      · subst hj
        rw [hi] at e1; cases e1
        rw [List.getElem?_set_self hiσ] at e2
        cases e2
        exact ⟨u, r, .inr ⟨.inl hk, c, hc, hc'⟩⟩
      · rw [List.getElem?_set_ne (Ne.symm hj)] at e2
        obtain ⟨u', r', q⟩ := hl j y v' e1 e2 e3
        refine ⟨u', r', ?_⟩
        rcases q with q | ⟨k, c', e, z'⟩
        · exact .inl q
        · refine .inr ⟨k, c', e, z'.sameBut hs ?_⟩
          rintro rfl
          exact hj (nodup_ix hN e1 (I.ok.inj _ _ _ e hc ▸ hi))
    · by_cases hcc : c' = c
      · subst hcc; exact ⟨_, hc'⟩
      · obtain ⟨w2, z2⟩ := I.cell y c' e
        exact ⟨w2, z2.sameBut hs hcc⟩
    · obtain ⟨e, n, ne, nf, d⟩ := I.pin p hp
      refine ⟨(hs.2 p.1 ?_).trans e, n, ne, nf, d⟩
      intro q
      rw [q, hoc] at e
      have q' : oc = p.2 := Option.some.inj e
      exact d w' (by rw [← q']; exact hocd)
theorem store_ok {M : Model} {A : Around} {E : Value → Shared → Prop} {i : Nat} {x : Str} {v : V} {u : Value} {Q : Unit → Shared → Prop} (I : Inv X pins σ H s) (hN : X.N.Nodup) (hi : X.N[i]? = some x) (hx : Loc X.env.scope x) (r : RelV v u)
    (h : ∀ s', Inv X pins (σ.set i (some v)) H s' → Q () s') (hf : X.fn x = true ∨ X.env.scope.names.lookup x = some .local := by first | exact .inl rfl | exact .inr rfl | assumption) : wpAny M A (storeName X.env x u) Q E s :=
  store_ok2 I hN hi hx r (fun s' I' _ => h s' I') hf
/-- behind a call or a block, the state as it is -/
theorem Inv.call' {s' : Shared} {ch : List Addr} (I : Inv X pins σ H s) (ho : s'.os = s.os) (u : Un (frs X.stack) ch H H' s.heap s'.heap) (hok : HOk X.prog X.w H' s'.heap) (hg : AllBare s'.gens)
    (hch : ∀ b ∈ ch, (b ∈ X.ex ∨ X.s₀.heap.objs.size ≤ b) ∧ b ≠ X.env.locals ∧ (∀ x c, X.env.cells.lookup x = some c → c ≠ b) ∧ ∀ p ∈ X.pn ++ pins, p.1 ≠ b) : Inv X pins σ H' s' := by
  obtain ⟨h', g', d', t', o'⟩ := s'
  have e : o' = s.os := ho
  subst e
  exact I.call (g' := g') (t' := t') (d' := d') u hok hg hch
end
/-! ### the judgements -/
/-- an exception: its class, its own dict's address (where it has one), the abstract heap behind it -/
abbrev XK := Value → Option Addr → Hp → Prop
abbrev St := List (Option V)
abbrev VK := V → Hp → Prop
/-- an expression's reading; a test's; an argument list's -/
abbrev TE := St → Hp → VK → Prop
abbrev TT := St → Hp → (Bool → Hp → Prop) → Prop
abbrev TA := St → Hp → (List V → Hp → Prop) → Prop
/-- what is wanted behind a statement -/
structure Ends where
  nx : St → Hp → Prop
  rt : VK
  bk : St → Hp → Prop := fun _ _ => False
  ct : St → Hp → Prop := fun _ _ => False
abbrev TS := Ends → St → Hp → Prop
def EP (X : Cx) (pins : List (Addr × Obj)) (σ : St) (Q : VK) (u : Value) (s' : Shared) : Prop := ∃ v H', Inv X pins σ H' s' ∧ RelV v u ∧ Q v H'
def TP (X : Cx) (pins : List (Addr × Obj)) (σ : St) (Q : Bool → Hp → Prop) (b : Bool) (s' : Shared) : Prop := ∃ H', Inv X pins σ H' s' ∧ Q b H'
def AP (X : Cx) (pins : List (Addr × Obj)) (σ : St) (Q : List V → Hp → Prop) (us : List Value) (s' : Shared) : Prop := ∃ vs H', Inv X pins σ H' s' ∧ Vals vs us ∧ Q vs H'
def SP (X : Cx) (pins : List (Addr × Obj)) (D : Ends) (f : Flow) (s' : Shared) : Prop :=
  match f with
  | .next => ∃ σ' H', Inv X pins σ' H' s' ∧ D.nx σ' H'
  | .brk => ∃ σ' H', Inv X pins σ' H' s' ∧ D.bk σ' H'
  | .cont => ∃ σ' H', Inv X pins σ' H' s' ∧ D.ct σ' H'
  | .ret u => ∃ v σ' H', Inv X pins σ' H' s' ∧ RelV v u ∧ D.rt v H'
def PE (X : Cx) (e : Expr) (t : TE) : Prop :=
  ∀ (pins : List (Addr × Obj)) (s : Shared) (σ : St) (H : Hp) (Q : VK), Inv X pins σ H s → t σ H Q → wpAny (model X.prog X.w) X.A (eval e X.env) (EP X pins σ Q) X.xe s
def PT (X : Cx) (e : Expr) (t : TT) : Prop :=
  ∀ (pins : List (Addr × Obj)) (s : Shared) (σ : St) (H : Hp) (Q : Bool → Hp → Prop), Inv X pins σ H s → t σ H Q → wpAny (model X.prog X.w) X.A (isTrue e X.env (eval e X.env)) (TP X pins σ Q) X.xe s
/-- a test whatever its 'whole' is (and, or) -/
def PW (X : Cx) (e : Expr) (t : TT) : Prop :=
  ∀ (whole : Sem Value) (pins : List (Addr × Obj)) (s : Shared) (σ : St) (H : Hp) (Q : Bool → Hp → Prop), Inv X pins σ H s → t σ H Q → wpAny (model X.prog X.w) X.A (isTrue e X.env whole) (TP X pins σ Q) X.xe s
theorem PW.pt {X : Cx} {e : Expr} {t : TT} (h : PW X e t) : PT X e t := h _
/-- an argument list (no star), from the left -/
def PA (X : Cx) (es : List Expr) (t : TA) : Prop :=
  ∀ (pos : Pos) (pins : List (Addr × Obj)) (s : Shared) (σ : St) (H : Hp) (Q : List V → Hp → Prop), Inv X pins σ H s → t σ H Q → wpAny (model X.prog X.w) X.A (spliced (backTo pos (starEach es X.env))) (AP X pins σ Q) X.xe s
def PS (X : Cx) (st : Stmt) (t : TS) : Prop :=
  ∀ (pins : List (Addr × Obj)) (s : Shared) (σ : St) (H : Hp) (D : Ends), Inv X pins σ H s → t D σ H → wpAny (model X.prog X.w) X.A (exec st X.env) (SP X pins D) X.xe s
def PSs (X : Cx) (st : List Stmt) (t : TS) : Prop :=
  ∀ (pins : List (Addr × Obj)) (s : Shared) (σ : St) (H : Hp) (D : Ends), Inv X pins σ H s → t D σ H → wpAny (model X.prog X.w) X.A (execs st X.env) (SP X pins D) X.xe s
/-- weaken the end -/
theorem thn {α : Type} {t : Sem α} {Q Q' : α → Shared → Prop} {M : Model} {A : Around} {E : Value → Shared → Prop} {s : Shared} (h : wpAny M A t Q E s) (hQ : ∀ a s, Q a s → Q' a s) : wpAny M A t Q' E s := wpAny_mono h hQ fun _ _ x => x
end L2
namespace L2
open PySem PySem.Spec PyProof.Rows
section
variable {X : Cx}
/-! ### names and constants -/
def tVar (i : Nat) : TE := fun σ H Q => ∃ v, σ[i]? = some (some v) ∧ Q v H
def tC (v : V) : TE := fun _ H Q => Q v H
theorem pe_var {i : Nat} {x : Str} {pos : Pos} (hN : X.N[i]? = some x) (hv : Vis X.env.scope x) (hd : (x == ("__debug__" : Str)) = false := by decide) (hcd : (x == ("__classdict__" : Str)) = false := by decide) : PE X (.Name x pos) (tVar i) := by
  intro pins s σ H Q I h
  obtain ⟨v, e, h⟩ := h
  obtain ⟨m, hn, hl⟩ := I.loc
  obtain ⟨u, r, l⟩ := hl i x v hN e hv
  have fin : EP X pins σ Q u s := ⟨v, H, I, r, h⟩
  rcases l with ⟨hk, hm⟩ | ⟨hk, c, hc, hcell⟩
  · exact wpAny_Name (wpAny_loadName_local I.ok.kind hk hn hm fin) hd
  · rcases hk with hk | hk
    · exact wpAny_Name (wpAny_loadName_cell I.ok.kind hk hc hcell fin) hd
    · exact wpAny_Name (wpAny_loadName_free I.ok.kind hk hc hcell fin hcd) hd
theorem pe_int {i j pos} : PE X (.Constant (.int i) j pos) (tC (.int i)) := fun _ _ _ H _ I h => wpAny_Constant_int ⟨.int i, H, I.tok _, ⟨_, rfl⟩, h⟩
theorem pe_bl {b j pos} : PE X (.Constant (.bool b) j pos) (tC (.bl b)) := fun _ _ _ H _ I h => Constant_bool ⟨.bl b, H, I, rfl, h⟩
theorem pe_str {x j pos} : PE X (.Constant (.str x) j pos) (tC (.str x)) := fun _ _ _ H _ I h => Calls.Constant_str ⟨.str x, H, I.tok _, ⟨_, rfl⟩, h⟩
/-- a global name of the def -/
def Gl (X : Cx) (x : Str) : Prop := X.env.kindOf x = some .globalImplicit
theorem ld_glob {E : Value → Shared → Prop} {pins : List (Addr × Obj)} {s : Shared} {σ : St} {H : Hp} {x : Str} {u : Value} {pos : Pos} {Q : Value → Shared → Prop} (I : Inv X pins σ H s) (hg : Gl X x) (hm : X.mg x = some u) (h : Q u s)
    (hd : (x == ("__debug__" : Str)) = false := by decide) : wpAny (model X.prog X.w) X.A (eval (.Name x pos) X.env) Q E s :=
  Calls.Name_function_global I.ok.kind hg (Calls.loadGlobal_global (by rw [I.ok.glob]; exact I.mod.glob.keeps I.bk) hm h) hd
theorem ld_blt {E : Value → Shared → Prop} {pins : List (Addr × Obj)} {s : Shared} {σ : St} {H : Hp} {x : Str} {u : Value} {pos : Pos} {Q : Value → Shared → Prop} (I : Inv X pins σ H s) (hg : Gl X x) (hm : X.mg x = none) (hv : bootBuiltins x = some u) (h : Q u s)
    (hn : x ≠ "__name__" := by decide) (hd : (x == ("__debug__" : Str)) = false := by decide) : wpAny (model X.prog X.w) X.A (eval (.Name x pos) X.env) Q E s := by
  obtain ⟨mb, h1, h2⟩ := I.mod.blt
  exact Calls.Name_function_global I.ok.kind hg (Calls.loadGlobal_builtin (by rw [I.ok.glob]; exact I.mod.glob.keeps I.bk) hm (by rw [I.ok.blt]; exact h1.keeps I.bk) ((h2 x hn).trans hv) h) hd
/-- a module's constant, a class, a function, as a value -/
theorem pe_glob {x : Str} {v : V} {u : Value} {pos : Pos} (hg : Gl X x) (hm : X.mg x = some u) (r : RelV v u) (hd : (x == ("__debug__" : Str)) = false := by decide) : PE X (.Name x pos) (tC v) :=
  fun _ _ _ H _ I h => ld_glob I hg hm ⟨v, H, I, r, h⟩ hd
variable {a b : Expr} {ta tb : TE} {pos : Pos}
/-- a comparison as a value, as a test -/
def tB (t : TE) : TT := fun σ H Q => t σ H fun x H1 => ∃ c, x = .bl c ∧ Q c H1
/-- an expression whose value is a bool, as a test -/
theorem pt_val {e : Expr} {t : TE} (h : PE X e t) (he : ∀ whole, isTrue e X.env whole = (do let v ← whole; standAt e.pos; holding [v] (truthy v)) := by intro _; rfl) : PT X e (tB t) := by
  intro pins s σ H Q I hw
  refine isTrue_plain (thn (h pins s σ H _ I hw) fun v s1 ⟨x, H1, I1, r1, q1⟩ => ?_) (he _)
  obtain ⟨d, rfl, q⟩ := q1
  cases r1
  exact wpAny_truthy_bool ⟨H1, I1, q⟩
/-! ### and, or, not -/
variable {tA tB' : TT} {rest : List Expr}
def tAnd (t u : TT) : TT := fun σ H Q => t σ H fun c H1 => if c = true then u σ H1 Q else Q false H1
def tOr (t u : TT) : TT := fun σ H Q => t σ H fun c H1 => if c = true then Q true H1 else u σ H1 Q
def tNot (t : TT) : TT := fun σ H Q => t σ H fun c H1 => Q (!c) H1
theorem pw_and1 (ha : PT X a tA) : PW X (.BoolOp .And [a] pos) tA := by
  intro wh pins s σ H Q I h
  refine isTrue_and (thn (ha pins s σ H Q I h) fun c s1 e => ?_)
  cases c with
  | true => exact isTrue_and_nil e
  | false => exact e
theorem pw_or1 (ha : PT X a tA) : PW X (.BoolOp .Or [a] pos) tA := by
  intro wh pins s σ H Q I h
  refine isTrue_or (thn (ha pins s σ H Q I h) fun c s1 e => ?_)
  cases c with
  | false => exact isTrue_or_nil e
  | true => exact e
theorem pw_and (ha : PT X a tA) (hb : PW X (.BoolOp .And (b :: rest) pos) tB') : PW X (.BoolOp .And (a :: b :: rest) pos) (tAnd tA tB') := by
  intro wh pins s σ H Q I h
  refine isTrue_and (thn (ha pins s σ H _ I h) fun c s1 ⟨H1, I1, q1⟩ => ?_)
  cases c with
  | true => exact hb wh pins s1 σ H1 Q I1 q1
  | false => exact ⟨H1, I1, q1⟩
theorem pw_or (ha : PT X a tA) (hb : PW X (.BoolOp .Or (b :: rest) pos) tB') : PW X (.BoolOp .Or (a :: b :: rest) pos) (tOr tA tB') := by
  intro wh pins s σ H Q I h
  refine isTrue_or (thn (ha pins s σ H _ I h) fun c s1 ⟨H1, I1, q1⟩ => ?_)
  cases c with
  | true => exact ⟨H1, I1, q1⟩
  | false => exact hb wh pins s1 σ H1 Q I1 q1
theorem pt_not (ha : PT X a tA) : PT X (.UnaryOp .Not a pos) (tNot tA) := by
  intro pins s σ H Q I h
  exact isTrue_not (ha pins s σ H (fun c H1 => Q (!c) H1) I h)
/-- .. as values (bools) -/
def tAndV (ta tb : TE) : TE := fun σ H Q => ta σ H fun x H1 => ∃ c, x = .bl c ∧ if c = true then tb σ H1 Q else Q (.bl false) H1
def tOrV (ta tb : TE) : TE := fun σ H Q => ta σ H fun x H1 => ∃ c, x = .bl c ∧ if c = true then Q (.bl true) H1 else tb σ H1 Q
def tNotV (ta : TE) : TE := fun σ H Q => ta σ H fun x H1 => ∃ c, x = .bl c ∧ Q (.bl (!c)) H1
theorem pe_one {op} {t : TE} (h : PE X a t) : PE X (.BoolOp op [a] pos) t := fun pins s σ H Q I hw => BoolOp_one (h pins s σ H Q I hw)
theorem pe_and (ha : PE X a ta) (hb : PE X (.BoolOp .And (b :: rest) pos) tb) : PE X (.BoolOp .And (a :: b :: rest) pos) (tAndV ta tb) := by
  intro pins s σ H Q I h
  refine BoolOp_and (thn (ha pins s σ H _ I h) fun v s1 ⟨x, H1, I1, r1, q1⟩ => ?_)
  obtain ⟨c, rfl, q1⟩ := q1
  cases r1
  refine wpAny_truthy_bool ?_
  cases c with
  | true => exact hb pins s1 σ H1 Q I1 q1
  | false => exact ⟨.bl false, H1, I1, rfl, q1⟩
/-- a if t else b -/
def tIf (t : TT) (ta tb : TE) : TE := fun σ H Q => t σ H fun c H1 => if c = true then ta σ H1 Q else tb σ H1 Q
theorem pe_ifExp {c : Expr} (hc : PT X c tA) (ha : PE X a ta) (hb : PE X b tb) : PE X (.IfExp c a b pos) (tIf tA ta tb) := by
  intro pins s σ H Q I h
  refine wpAny_IfExp (thn (hc pins s σ H _ I h) fun d s1 ⟨H1, I1, q1⟩ => ?_)
  cases d with
  | true => exact ha pins s1 σ H1 Q I1 q1
  | false => exact hb pins s1 σ H1 Q I1 q1
end
end L2
namespace L2
open PySem PySem.Spec PyProof.Rows
/-! ### a list, a tuple that is read: tracked, frozen, or an object of the module -/
def SqL (K : PySem.W.Frag) (H : Hp) (a : Addr) (xs : List V) : Prop :=
  Rd H a (.lst xs) ∨
    ∃ (o : Obj) (its : Array Value) (n : Nat), K.lookup a = some o ∧ o.cls = .type "list" ∧ o.dict = none ∧ o.data = .seq its n ∧ its.size ≤ sizeLine ∧ Vals xs its.toList
def SqT (K : PySem.W.Frag) (H : Hp) (a : Addr) (xs : List V) : Prop :=
  Rd H a (.tup xs) ∨
    ∃ (o : Obj) (its : Array Value) (n : Nat), K.lookup a = some o ∧ o.cls = .type "tuple" ∧ o.data = .seq its n ∧ its.size ≤ sizeLine ∧ Vals xs its.toList
def absV : Value → Option V
  | .none => some .non
  | .bool b => some (.bl b)
  | .int i _ => some (.int i)
  | .str x _ => some (.str x)
  | .bytes b _ => some (.byt b)
  | .float b _ => some (.flt b)
  | .ref a => some (.ref a)
  | .type n => some (.ty n)
  | _ => none
theorem RelV.abs {x : V} {u : Value} (r : RelV x u) : absV u = some x := by
  cases x with
  | non => cases r; rfl
  | bl _ => cases r; rfl
  | int _ => obtain ⟨t, rfl⟩ := r; rfl
  | str _ => obtain ⟨t, rfl⟩ := r; rfl
  | byt _ => obtain ⟨t, rfl⟩ := r; rfl
  | flt _ => obtain ⟨t, rfl⟩ := r; rfl
  | ref _ => cases r; rfl
  | ty _ => cases r; rfl
theorem RelV.inj {x y : V} {u : Value} (r : RelV x u) (q : RelV y u) : x = y := Option.some.inj (r.abs.symm.trans q.abs)
theorem Vals.inj : ∀ {xs ys : List V} {us : List Value}, Vals xs us → Vals ys us → xs = ys
  | _, _, _, .nil, .nil => rfl
  | _, _, _, .cons r t, .cons r' t' => by rw [r.inj r', Vals.inj t t']
section
variable {X : Cx} {pins : List (Addr × Obj)} {σ : St} {H : Hp} {s : Shared} {a : Addr} {xs ys : List V}
theorem SqL.of {K : PySem.W.Frag} (h : H a = some (.lst xs)) : SqL K H a xs := .inl (.inl h)
theorem SqT.of {K : PySem.W.Frag} (h : H a = some (.tup xs)) : SqT K H a xs := .inl (.inl h)
theorem Inv.list (I : Inv X pins σ H s) (h : SqL X.K H a xs) : ∃ its : List Value, Vals xs its ∧ PlainL s.heap a its.toArray ∧ xs.length ≤ sizeLine := by
  rcases h with h | ⟨o, its, n, hk, hc, hd, hs, hz, r⟩
  · obtain ⟨z, its, n, r, e⟩ := h.ok I.hok
    exact ⟨its, r, ⟨_, n, e, rfl, rfl, rfl⟩, z⟩
  · refine ⟨its.toList, r, ⟨o, n, I.kIn a o hk, hc, hd, by simpa using hs⟩, ?_⟩
    have e := r.length
    simp only [Array.length_toList] at e
    omega
theorem Inv.tuple (I : Inv X pins σ H s) (h : SqT X.K H a xs) : ∃ its : List Value, Vals xs its ∧ IsTup s.heap a its.toArray ∧ xs.length ≤ sizeLine := by
  rcases h with h | ⟨o, its, n, hk, hc, hs, hz, r⟩
  · obtain ⟨z, its, r, p⟩ := h.ok I.hok
    exact ⟨its, r, p, z⟩
  · refine ⟨its.toList, r, ⟨o, I.kIn a o hk, hc, n, by simpa using hs⟩, ?_⟩
    have e := r.length
    simp only [Array.length_toList] at e
    omega
theorem Inv.tuple_inj (I : Inv X pins σ H s) (h : SqT X.K H a xs) (h' : SqT X.K H a ys) : xs = ys := by
  obtain ⟨its, r, ⟨o, e, _, n, d⟩, _⟩ := I.tuple h
  obtain ⟨its', r', ⟨o', e', _, n', d'⟩, _⟩ := I.tuple h'
  rw [e] at e'; cases e'
  rw [d] at d'
  injection d' with d1 _
  have : its = its' := by simpa using congrArg Array.toList d1
  subst this
  exact r.inj r'
end
/-! ### another wish about exceptions -/
abbrev Cx.wish (X : Cx) (E : Value → Shared → Prop) : Cx := { X with xe := E }
/-- no exception leaves -/
abbrev Cx.nox (X : Cx) : Cx := X.wish fun _ _ => False
theorem Cx.Ok.wish {X : Cx} (ok : X.Ok) (E : Value → Shared → Prop) : (X.wish E).Ok :=
  ⟨ok.mod, ok.kind, ok.glob, ok.blt, ok.above, ok.inj, ok.has, ok.cab, ok.hd, ok.frames, ok.stk, ok.exf, ok.bs, ok.bsz, ok.noex, ok.exfs, ok.funs, ok.frf⟩
theorem Cx.Ok.unwish {X : Cx} {E : Value → Shared → Prop} (ok : (X.wish E).Ok) : X.Ok :=
  ⟨ok.mod, ok.kind, ok.glob, ok.blt, ok.above, ok.inj, ok.has, ok.cab, ok.hd, ok.frames, ok.stk, ok.exf, ok.bs, ok.bsz, ok.noex, ok.exfs, ok.funs, ok.frf⟩
section
variable {X : Cx} {pins : List (Addr × Obj)} {σ : St} {H : Hp} {s : Shared} {E : Value → Shared → Prop}
theorem Inv.wish (I : Inv X pins σ H s) (E : Value → Shared → Prop) : Inv (X.wish E) pins σ H s := ⟨I.ok.wish E, I.os, I.bare, I.base, I.loc, I.cell, I.free, I.freeC, I.pin, I.hok, I.len⟩
theorem Inv.unwish (I : Inv (X.wish E) pins σ H s) : Inv X pins σ H s := ⟨I.ok.unwish, I.os, I.bare, I.base, I.loc, I.cell, I.free, I.freeC, I.pin, I.hok, I.len⟩
theorem SP.unwish {D : Ends} {f : Flow} {s' : Shared} (h : SP (X.wish E) pins D f s') : SP X pins D f s' := by
  cases f with
  | next => obtain ⟨σ', H', I, q⟩ := h; exact ⟨σ', H', I.unwish, q⟩
  | brk => obtain ⟨σ', H', I, q⟩ := h; exact ⟨σ', H', I.unwish, q⟩
  | cont => obtain ⟨σ', H', I, q⟩ := h; exact ⟨σ', H', I.unwish, q⟩
  | ret u => obtain ⟨v, σ', H', I, r, q⟩ := h; exact ⟨v, σ', H', I.unwish, r, q⟩
theorem PE.nox {e : Expr} {t : TE} (h : PE X.nox e t) : PE X e t := fun pins s σ H Q I hw =>
  wpAny_mono (h pins s σ H Q (I.wish _) hw) (fun _ _ ⟨v, H', I', r, q⟩ => ⟨v, H', I'.unwish, r, q⟩) fun _ _ z => False.elim z
theorem PT.nox {e : Expr} {t : TT} (h : PT X.nox e t) : PT X e t := fun pins s σ H Q I hw =>
  wpAny_mono (h pins s σ H Q (I.wish _) hw) (fun _ _ ⟨H', I', q⟩ => ⟨H', I'.unwish, q⟩) fun _ _ z => False.elim z
theorem PSs.nox {st : List Stmt} {t : TS} (h : PSs X.nox st t) : PSs X st t := fun pins s σ H D I hw =>
  wpAny_mono (h pins s σ H D (I.wish _) hw) (fun _ _ q => q.unwish) fun _ _ z => False.elim z
end
/-! ### blocks and small statements -/
section
variable {X : Cx} {st : Stmt} {rest : List Stmt} {t u : TS} {e : Expr} {te : TE} {pos : Pos}
def tNext : TS := fun D σ H => D.nx σ H
def tSeq (t u : TS) : TS := fun D σ H => t { D with nx := u D } σ H
theorem pss_nil : PSs X [] tNext := fun _ _ σ H _ I h => wpAny_execs_nil ⟨σ, H, I, h⟩
theorem pss_cons (h1 : PS X st t) (h2 : PSs X rest u) : PSs X (st :: rest) (tSeq t u) := by
  intro pins s σ H D I h
  refine wpAny_execs_cons (thn (h1 pins s σ H { D with nx := u D } I h) fun f s1 q => ?_)
  cases f with
  | next =>
    obtain ⟨σ', H', I', q⟩ := q
    exact h2 pins s1 σ' H' D I' q
  | ret v => exact q
  | brk => exact q
  | cont => exact q
theorem pss_one (h1 : PS X st t) : PSs X [st] t := by
  intro pins s σ H D I h
  refine wpAny_execs_cons (thn (h1 pins s σ H D I h) fun f s1 q => ?_)
  cases f with
  | next => exact wpAny_execs_nil q
  | ret v => exact q
  | brk => exact q
  | cont => exact q
def tBreak : TS := fun D σ H => D.bk σ H
def tCont : TS := fun D σ H => D.ct σ H
/-- in a def's body nothing is shown -/
theorem Inv.quiet {pins : List (Addr × Obj)} {σ : St} {H : Hp} {s : Shared} (I : Inv X pins σ H s) : interactive X.env = false := by simp [interactive, I.ok.kind]
/-- an expression whose value is dropped -/
def tDrop (te : TE) : TS := fun D σ H => te σ H fun _ H1 => D.nx σ H1
theorem ps_expr (he : PE X e te) (hs : swapsWith e none pos.line X.env = pure false := by rfl) : PS X (.Expr e pos) (tDrop te) := by
  intro pins s σ H D I h
  exact wpAny_Expr_any (thn (he pins s σ H _ I h) fun v s1 ⟨x, H1, I1, r1, q1⟩ => ⟨σ, H1, I1, q1⟩) I.quiet hs
def tRet (te : TE) : TS := fun D σ H => te σ H D.rt
theorem ps_ret (he : PE X e te) : PS X (.Return (some e) pos) (tRet te) := by
  intro pins s σ H D I h
  exact wpAny_Return_some (thn (he pins s σ H _ I h) fun v s1 ⟨x, H1, I1, r1, q1⟩ => ⟨x, σ, H1, I1, r1, q1⟩)
def tRetN : TS := fun D _ H => D.rt .non H
def tIfS (c : TT) (t u : TS) : TS := fun D σ H => c σ H fun b H1 => if b = true then t D σ H1 else u D σ H1
theorem ps_if {c : Expr} {a b : List Stmt} {tc : TT} (hc : PT X c tc) (ha : PSs X a t) (hb : PSs X b u) : PS X (.If c a b pos) (tIfS tc t u) := by
  intro pins s σ H D I h
  refine wpAny_If (thn (hc pins s σ H _ I h) fun d s1 ⟨H1, I1, q1⟩ => ?_)
  cases d with
  | true => exact ha pins s1 σ H1 D I1 q1
  | false => exact hb pins s1 σ H1 D I1 q1
end
/-! ### targets -/
abbrev TG := V → St → Hp → (St → Hp → Prop) → Prop
abbrev TGs := List V → St → Hp → (St → Hp → Prop) → Prop
def PG (X : Cx) (target : Expr) (t : TG) : Prop :=
  ∀ (pins : List (Addr × Obj)) (s : Shared) (σ : St) (H : Hp) (v : V) (u : Value) (Q : St → Hp → Prop), Inv X pins σ H s → RelV v u → t v σ H Q →
    wpAny (model X.prog X.w) X.A (assign target X.env u) (fun _ s' => ∃ σ' H', Inv X pins σ' H' s' ∧ Q σ' H') X.xe s
/-- o[i] = v, by values -/
abbrev TSet := V → V → V → Hp → (Hp → Prop) → Prop
section
variable {X : Cx} {pos : Pos}
def gName (i : Nat) : TG := fun v σ H Q => Q (σ.set i (some v)) H
theorem pg_name {i : Nat} {x : Str} (hN : X.N.Nodup) (hi : X.N[i]? = some x) (hx : Loc X.env.scope x) (hf : X.fn x = true ∨ X.env.scope.names.lookup x = some .local := by first | exact .inl rfl | exact .inr rfl | assumption) : PG X (.Name x pos) (gName i) := by
  intro pins s σ H v u Q I r h
  exact wpAny_assign_Name (store_ok I hN hi hx r (fun s' I' => ⟨_, H, I', h⟩) hf)
def gNil : TGs := fun vs σ H Q => vs = [] ∧ Q σ H
def gCons (t : TG) (u : TGs) : TGs := fun vs σ H Q => ∃ v r, vs = v :: r ∧ t v σ H fun σ' H' => u r σ' H' Q
/-- (a, b, ..) = a tuple of that length -/
def gTup (K : PySem.W.Frag) (n : Nat) (t : TGs) : TG := fun v σ H Q => ∃ a xs, v = .ref a ∧ SqT K H a xs ∧ xs.length = n ∧ t xs σ H Q
/-- o[i] = .. -/
def gSub (to ti : TE) (t : TSet) : TG := fun v σ H Q => to σ H fun o H1 => ti σ H1 fun i H2 => t o i v H2 fun H3 => Q σ H3
/-- target = value -/
def tAsg (te : TE) (g : TG) : TS := fun D σ H => te σ H fun x H1 => g x σ H1 D.nx
/-- name = value -/
theorem ps_set {i : Nat} {x : Str} {e : Expr} {te : TE} {pos' : Pos} (hN : X.N.Nodup) (hi : X.N[i]? = some x) (hx : Loc X.env.scope x) (he : PE X e te) (hs : swapsWith e (some (.Name x pos')) pos.line X.env = pure false := by rfl) (hf : X.fn x = true ∨ X.env.scope.names.lookup x = some .local := by first | exact .inl rfl | exact .inr rfl | assumption) :
    PS X (.Assign [.Name x pos'] e pos) (tAsg te (gName i)) := by
  intro pins s σ H D I h
  refine wpAny_Assign_Name (thn (he pins s σ H _ I h) fun v s1 ⟨y, H1, I1, r1, q1⟩ => ?_) hs
  exact store_ok I1 hN hi hx r1 (fun s2 I2 => ⟨_, H1, I2, q1⟩) hf
end
/-! ### while -/
section
variable {X : Cx} {pos : Pos}
end
/-! ### what a loop or a comprehension walks -/
/-- at turn i: it yields x (the heap may grow), or it stops -/
structure It where
  go : Nat → Hp → Prop
  yld : Nat → Hp → V → Hp → Prop
  stop : Nat → Hp → Prop
/-- the iterator's own objects may turn: they are not the frame's, not pinned, younger than the entry (or a comprehension's own) -/
def FpOk (X : Cx) (pins : List (Addr × Obj)) (H : Hp) (b : Addr) : Prop :=
  H b = none ∧ b ≠ X.env.locals ∧ b ∉ X.fs ∧ (b ∈ X.ex ∨ X.s₀.heap.objs.size ≤ b) ∧ (∀ x c, X.env.cells.lookup x = some c → c ≠ b) ∧ ∀ p ∈ X.pn ++ pins, p.1 ≠ b
theorem Inv.fpOk {X : Cx} {pins : List (Addr × Obj)} {σ : St} {H H' : Hp} {s : Shared} {b : Addr} (I : Inv X pins σ H s) (hb : s.heap.objs.size ≤ b) (hn : H' b = none) : FpOk X pins H' b := by
  refine ⟨hn, Nat.ne_of_gt (Nat.lt_of_lt_of_le I.lt hb), I.nofs hb, .inr (Nat.le_trans I.sz hb), fun x c e z => ?_, fun p hp z => ?_⟩
  · obtain ⟨v, q⟩ := I.cell x c e
    exact absurd (Nat.lt_of_lt_of_le q.lt (by rw [z]; exact hb)) (Nat.lt_irrefl _)
  · exact absurd (Nat.lt_of_lt_of_le (Heap.lt_size (I.pin p hp).1) (by rw [z]; exact hb)) (Nat.lt_irrefl _)
structure Turn (P : Program) (w : World) (K : PySem.W.Frag) (tg : Expr) (J : It) (fp : List Addr) (it : Addr) (tn : Nat → Heap → Prop) : Prop where
  mem : it ∈ fp
  obj : ∀ i h, tn i h → ∀ b ∈ fp, ∃ o, h.get? b = some o ∧ ∀ v, o.data ≠ .cell v
  keep : ∀ i h h', tn i h → (∀ b ∈ fp, ∀ o, h.get? b = some o → h'.get? b = some o) → tn i h'
  item : ∀ (X : Cx), X.prog = P → X.w = w → X.K = K → X.calm = true → ∀ (i : Nat) (pins : List (Addr × Obj)) (s : Shared) (σ : St) (H : Hp) (E : Value → Shared → Prop), Inv X pins σ H s → (∀ b ∈ fp, FpOk X pins H b) → tn i s.heap → J.go i H →
    wpAny (model P w) X.A (pyNext (.ref it)) (fun r s1 => ∃ u, r = some u ∧
      wpAny (model P w) X.A (letOwnedTupleGo tg (.ref it) u) (fun _ s2 => ∃ x H', Inv X pins σ H' s2 ∧ RelV x u ∧ J.yld i H x H' ∧ tn (i + 1) s2.heap ∧ ∀ b ∈ fp, H' b = none) E s1) E s
  done : ∀ (X : Cx), X.prog = P → X.w = w → X.K = K → X.calm = true → ∀ (i : Nat) (pins : List (Addr × Obj)) (s : Shared) (σ : St) (H : Hp) (E : Value → Shared → Prop), Inv X pins σ H s → (∀ b ∈ fp, FpOk X pins H b) → tn i s.heap → J.stop i H →
    wpAny (model P w) X.A (pyNext (.ref it)) (fun r s1 => r = none ∧ Inv X pins σ H s1) E s
  self : ∀ (A : Around) (i : Nat) (s : Shared) (Q : Value → Shared → Prop) (E : Value → Shared → Prop), tn i s.heap → Q (.ref it) s → wpAny (model P w) A (pyIter (.ref it)) Q E s
abbrev TI := St → Hp → (It → Hp → Prop) → Prop
/-- an iterator has come -/
def PIE (X : Cx) (pins : List (Addr × Obj)) (σ : St) (tg : Expr) (R : It → Hp → Prop) (itv : Value) (s2 : Shared) : Prop :=
  ∃ (it : Addr) (fp : List Addr) (tn : Nat → Heap → Prop) (J : It) (H' : Hp), itv = .ref it ∧ Inv X pins σ H' s2 ∧ Turn X.prog X.w X.K tg J fp it tn ∧ tn 0 s2.heap ∧ (∀ b ∈ fp, FpOk X pins H' b) ∧ R J H'
def PI (X : Cx) (tg iter : Expr) (wi : TI) : Prop :=
  ∀ (pins : List (Addr × Obj)) (s : Shared) (σ : St) (H : Hp) (R : It → Hp → Prop), Inv X pins σ H s → wi σ H R →
    wpAny (model X.prog X.w) X.A (eval iter X.env) (fun v s1 => wpAny (model X.prog X.w) X.A (pyIter v) (PIE X pins σ tg R) X.xe s1) X.xe s
/-- the step ahead of the store is nothing for an iterator that keeps no tuple -/
theorem go_of {M : Model} {A : Around} {E : Value → Shared → Prop} {s : Shared} {tg : Expr} {it : Addr} {u : Value} {o : Obj} {n : String} {vs : Array Value} {Q : Unit → Shared → Prop} (ho : s.heap.get? it = some o) (hc : o.cls = .type n) (hd : o.data = .fields vs)
    (hn : ["enumerate", "zip", "dict_itemiterator", "dict_reverseitemiterator", "odict_iterator", "itertools.zip_longest", "itertools.pairwise"].contains n = false) (hQ : Q () s) : wpAny M A (letOwnedTupleGo tg (.ref it) u) Q E s := by
  unfold letOwnedTupleGo
  cases tg <;> first
    | exact wpAny_pure hQ
    | (cases u <;> first
        | exact wpAny_pure hQ
        | (refine wpAny_bind (wpAny_load ho ?_)
           rw [hc, hd]
           show wpAny M A (if (["enumerate", "zip", "dict_itemiterator", "dict_reverseitemiterator", "odict_iterator", "itertools.zip_longest", "itertools.pairwise"].contains n && vs[0]? == some (rawInt _)) = true then _ else _) Q E s
           rw [if_neg (by intro h; rw [hn, Bool.false_and] at h; cases h)]
           exact wpAny_pure hQ))
/-- the list at a, as it stands at each turn (a loop may append to it) -/
def Itl (K : PySem.W.Frag) (a : Addr) : It :=
  ⟨fun i H => ∃ xs x, SqL K H a xs ∧ xs[i]? = some x, fun i H x H' => H' = H ∧ ∀ xs, SqL K H a xs → xs[i]? = some x, fun i H => ∃ xs, SqL K H a xs ∧ xs.length ≤ i⟩
def Itt (K : PySem.W.Frag) (a : Addr) : It :=
  ⟨fun i H => ∃ xs x, SqT K H a xs ∧ xs[i]? = some x, fun i H x H' => H' = H ∧ ∀ xs, SqT K H a xs → xs[i]? = some x, fun i H => ∃ xs, SqT K H a xs ∧ xs.length ≤ i⟩
/-- lo, lo + 1, .. (n of them) -/
def Itr (lo : Int) (n : Nat) : It := ⟨fun i _ => i < n, fun i H x H' => H' = H ∧ x = .int (lo + i), fun i _ => n ≤ i⟩
theorem turn_tuple {P : Program} {w : World} {K : PySem.W.Frag} {tg : Expr} (a it : Addr) : Turn P w K tg (Itt K a) [it] it (fun i h => h.IsTupleIter it a i) where
  mem := by simp
  obj := fun i h st b hb => by
    have e : b = it := by simpa using hb
    subst e
    obtain ⟨o, e, c, d⟩ := st
    exact ⟨o, e, fun v z => by rw [d] at z; cases z⟩
  keep := fun i h h' st k => st.at fun o e => k it (by simp) o e
  item := by
    intro X hP hw hK hc i pins s σ H E I hf st hg
    subst hP hw hK
    obtain ⟨xs, x, hq, hx⟩ := hg
    obtain ⟨its, rv, p, hz⟩ := I.tuple hq
    obtain ⟨u, hu, ru⟩ := rv.get hx
    obtain ⟨f0, f1, f2, f3, f4, f5⟩ := hf it (by simp)
    refine wpAny_pyNext_tuple_item st (show s.heap.IsTuple a its.toArray from p) (x := u) (by simpa using hu) fun h' st' sb => ?_
    have I1 : Inv X pins σ H { s with heap := h' } := I.turned (t' := s.toks) (fun b o hb e => (sb.2 b hb).trans e) f0 f1 f3 f4 f5
    obtain ⟨o, e, c, d⟩ := id st'
    exact ⟨u, rfl, go_of (s := { s with heap := h' }) e c d (by decide) ⟨x, H, I1, ru, ⟨rfl, fun ys hy => by rw [I.tuple_inj hy hq]; exact hx⟩, st', fun b hb => (hf b hb).1⟩⟩
  done := by
    intro X hP hw hK hc i pins s σ H E I hf st hg
    subst hP hw hK
    obtain ⟨xs, hq, hx⟩ := hg
    obtain ⟨its, rv, p, hz⟩ := I.tuple hq
    obtain ⟨f0, f1, f2, f3, f4, f5⟩ := hf it (by simp)
    have hl := rv.length
    exact wpAny_pyNext_tuple_end (I.ok.hd hc) st (show s.heap.IsTuple a its.toArray from p) (by simp; omega) fun h' eb => ⟨rfl, I.turned (t' := s.toks) (fun b o hb e => eb b o hb e) f0 f1 f3 f4 f5⟩
  self := fun _ _ _ _ _ st h => wpAny_pyIter_tupleiter st h
theorem turn_range {P : Program} {w : World} {K : PySem.W.Frag} {tg : Expr} (it : Addr) (lo : Int) (n : Nat) : Turn P w K tg (Itr lo n) [it] it (fun i h => IsRangeIter h it (lo + (i : Nat) * 1) ((n : Int) - (i : Nat)) 1) where
  mem := by simp
  obj := fun i h st b hb => by
    have e : b = it := by simpa using hb
    subst e
    exact ⟨_, st, fun v z => by
      have z' : Data.fields _ = Data.cell v := z
      cases z'⟩
  keep := fun i h h' st k => k it (by simp) _ st
  item := by
    intro X hP hw hK hc i pins s σ H E I hf st hg
    subst hP hw hK
    obtain ⟨f0, f1, f2, f3, f4, f5⟩ := hf it (by simp)
    have W := Walks.range (prog := X.prog) (w := X.w) (I.ok.hd hc) it lo 1 n
    refine W.item i s _ _ hg st fun v h' tk hv st' kk => ?_
    obtain ⟨t, rfl⟩ := hv
    have I1 : Inv X pins σ H { s with heap := h', toks := tk } := I.turned (fun b o hb e => kk b o (by simpa using hb) e) f0 f1 f3 f4 f5
    refine ⟨_, rfl, go_of (s := { s with heap := h', toks := tk }) (n := "range_iterator") st' rfl rfl (by decide) ⟨.int (lo + i), H, I1, ⟨t, ?_⟩, ⟨rfl, rfl⟩, st', fun b hb => (hf b hb).1⟩⟩
    rw [Int.mul_one]
  done := by
    intro X hP hw hK hc i pins s σ H E I hf st hg
    subst hP hw hK
    obtain ⟨f0, f1, f2, f3, f4, f5⟩ := hf it (by simp)
    exact wpAny_pyNext_range_end (I.ok.hd hc) st (by have : n ≤ i := hg; omega) fun h' eb => ⟨rfl, I.turned (t' := s.toks) (fun b o hb e => eb b o hb e) f0 f1 f3 f4 f5⟩
  self := fun _ _ _ _ _ st h => wpAny_pyIter_rangeiter st h
end L2
namespace L2
open PySem PySem.Spec PyProof.Rows
section
variable {X : Cx} {tg : Expr}
def iList (K : PySem.W.Frag) (tl : TE) : TI := fun σ H R => tl σ H fun x H1 => ∃ a, x = .ref a ∧ (∃ xs, SqL K H1 a xs) ∧ R (Itl K a) H1
def iTup (K : PySem.W.Frag) (tl : TE) : TI := fun σ H R => tl σ H fun x H1 => ∃ a, x = .ref a ∧ (∃ xs, SqT K H1 a xs) ∧ R (Itt K a) H1
theorem pi_tup {l : Expr} {tl : TE} (hl : PE X l tl) : PI X tg l (iTup X.K tl) := by
  intro pins s σ H R I h
  refine thn (hl pins s σ H _ I h) fun v s1 ⟨x, H1, I1, r1, q1⟩ => ?_
  obtain ⟨a, e, ⟨xs, hq⟩, q⟩ := q1
  subst e
  cases r1
  obtain ⟨its, rv, p, hz⟩ := I1.tuple hq
  refine wpAny_pyIter_tuple (show s1.heap.IsTuple a its.toArray from p) ?_
  refine ⟨s1.heap.objs.size, [s1.heap.objs.size], _, _, H1, rfl, I1.kept (t' := s1.toks) fun b o e => Heap.get?_push_of_some _ e, turn_tuple a _, ⟨_, Heap.get?_push_size _ rfl, rfl, rfl⟩, fun b hb => ?_, q⟩
  have e : b = s1.heap.objs.size := by simpa using hb
  subst e
  exact I1.fpOk (Nat.le_refl _) (I1.hok.fresh (Nat.le_refl _))
/-- a range object just made, walked -/
theorem range_it {pins : List (Addr × Obj)} {σ : St} {H : Hp} {s : Shared} {R : It → Hp → Prop} {E : Value → Shared → Prop} {lo hi : Int} {t u v : Tok} {tk : Nat} (I : Inv X pins σ H s) (h1 : -(2 ^ 62) ≤ lo) (h2 : lo < 2 ^ 62) (h3 : -(2 ^ 62) ≤ hi) (h4 : hi < 2 ^ 62)
    (q : R (Itr lo (hi - lo).toNat) H) : wpAny (model X.prog X.w) X.A (pyIter (.ref s.heap.objs.size)) (PIE X pins σ tg R) E { s with heap := s.heap.push { cls := .type "range", data := .fields #[.int lo t, .int hi u, .int 1 v] }, toks := tk } := by
  refine wpAny_pyIter_range (IsRange.new ..) (small_one h1 h2 h3 h4) ?_
  have I1 : Inv X pins σ H { s with heap := s.heap.push { cls := .type "range", data := .fields #[.int lo t, .int hi u, .int 1 v] }, toks := tk } := I.kept fun b o e => Heap.get?_push_of_some _ e
  refine ⟨(s.heap.push { cls := .type "range", data := .fields #[.int lo t, .int hi u, .int 1 v] }).objs.size, [(s.heap.push { cls := .type "range", data := .fields #[.int lo t, .int hi u, .int 1 v] }).objs.size], _, _, H, rfl,
    I1.kept (t' := tk) fun b o e => Heap.get?_push_of_some _ e, turn_range _ lo (hi - lo).toNat, ?_, fun b hb => ?_, q⟩
  · have e1 : lo + ((0 : Nat) : Int) * 1 = lo := by simp
    have e2 : (((hi - lo).toNat : Nat) : Int) - ((0 : Nat) : Int) = Builtin.Range.rangeSize lo hi 1 := by rw [rangeSize_one]; split <;> omega
    show IsRangeIter _ _ (lo + ((0 : Nat) : Int) * 1) ((((hi - lo).toNat : Nat) : Int) - ((0 : Nat) : Int)) 1
    rw [e1, e2]
    exact Heap.get?_push_size _ rfl
  · have e : b = (s.heap.push { cls := .type "range", data := .fields #[.int lo t, .int hi u, .int 1 v] }).objs.size := by simpa using hb
    subst e
    exact I1.fpOk (Nat.le_refl _) (I1.hok.fresh (Nat.le_refl _))
def iRng1 (ta : TA) : TI := fun σ H R => ta σ H fun vs H1 => ∃ j : Int, vs = [.int j] ∧ -(2 ^ 62) ≤ j ∧ j < 2 ^ 62 ∧ R (Itr 0 j.toNat) H1
theorem pi_range1 {a : Expr} {ta : TA} {p pos : Pos} (hg : Gl X "range") (hm : X.mg "range" = none) (ha : PA X [a] ta) (hs : starEach [a] X.env = [(false, eval a X.env)] := by rfl) : PI X tg (.Call (.Name "range" p) [a] [] pos) (iRng1 ta) := by
  intro pins s σ H R I h
  refine Call_ (ld_blt I hg hm boot_range (PyProof.Rows.callWith_type1 (thn (ha pos pins s σ H _ I h) fun us s1 ⟨vs, H1, I1, r1, q1⟩ => ?_) hs rfl))
  obtain ⟨j, e, q1, q2, q⟩ := q1
  subst e
  cases r1 with
  | cons r rr =>
    cases rr
    obtain ⟨t, rfl⟩ := r
    exact call_range_1 (range_it I1 (by omega) (by omega) q1 q2 (by simpa using q))
/-! ### for -/
/-- W: the invariant by the turn and a measure; N: what the body is to reach -/
def tFor (wi : TI) (g : TG) (tb : TS) : TS := fun D σ H => wi σ H fun J H1 => ∃ W : Nat → Nat → St → Hp → Prop, (∃ m, W 0 m σ H1) ∧ ∀ i m σ H, W i m σ H →
  (J.stop i H ∧ D.nx σ H) ∨ (J.go i H ∧ ∃ N : St → Hp → Prop, (∀ σ' H', N σ' H' → ∃ m', m' < m ∧ W (i + 1) m' σ' H') ∧ ∀ x H', J.yld i H x H' → g x σ H' fun σ2 H2 => tb { D with nx := N, ct := N, bk := D.nx } σ2 H2)
/-- the records at fp as they stand -/
def pinsAt (fp : List Addr) (h : Heap) : List (Addr × Obj) := fp.filterMap fun b => (h.get? b).map fun o => (b, o)
theorem mem_pinsAt {fp : List Addr} {h : Heap} {b : Addr} {o : Obj} (hb : b ∈ fp) (e : h.get? b = some o) : (b, o) ∈ pinsAt fp h := List.mem_filterMap.mpr ⟨b, hb, by rw [e]; rfl⟩
theorem of_pinsAt {fp : List Addr} {h : Heap} {p : Addr × Obj} (hp : p ∈ pinsAt fp h) : p.1 ∈ fp ∧ h.get? p.1 = some p.2 := by
  obtain ⟨b, hb, e⟩ := List.mem_filterMap.mp hp
  cases q : h.get? b with
  | none => rw [q] at e; cases e
  | some o =>
    rw [q] at e
    have e' : (b, o) = p := Option.some.inj e
    subst e'
    exact ⟨hb, q⟩
theorem Inv.pinned {pins : List (Addr × Obj)} {σ : St} {H : Hp} {s : Shared} {fp : List Addr} (I : Inv X pins σ H s) (hf : ∀ b ∈ fp, FpOk X pins H b) (ho : ∀ b ∈ fp, ∃ o, s.heap.get? b = some o ∧ ∀ v, o.data ≠ .cell v) : Inv X (pins ++ pinsAt fp s.heap) σ H s :=
  I.pins_of fun p hp => (List.mem_append.mp hp).elim (fun z => I.pin p (List.mem_append_right _ z)) fun z => by
    obtain ⟨hb, e⟩ := of_pinsAt z
    obtain ⟨f0, f1, f2, _⟩ := hf p.1 hb
    obtain ⟨o, e', d⟩ := ho p.1 hb
    rw [e] at e'; cases e'
    exact ⟨e, f0, f1, f2, d⟩
theorem Inv.unpinned {pins pl : List (Addr × Obj)} {σ : St} {H : Hp} {s : Shared} (I : Inv X (pins ++ pl) σ H s) : Inv X pins σ H s := I.pins_of fun p hp => I.pin p (List.mem_append_right _ (List.mem_append_left _ hp))
theorem ps_for {iter : Expr} {body : List Stmt} {wi : TI} {g : TG} {tb : TS} {pos : Pos} (hp : PassesOwn (model X.prog X.w) X.A X.env X.xe) (hc : X.calm = true) (hi : PI X tg iter wi) (hg : PG X tg g) (hb : PSs X body tb)
    (hs : ∀ x, foldedSetIterable iter X.env x = pure x := by intro _; rfl) : PS X (.For tg iter body [] pos) (tFor wi g tb) := by
  intro pins s σ H D I h
  refine wpAny_For (thn (hi pins s σ H _ I h) fun v s1 h1 => thn h1 fun itv s2 h2 => ?_) hs
  obtain ⟨it, fp, tn, J, H2, e, I2, T, st2, f2, W, ⟨m0, w0⟩, turn⟩ := h2
  subst e
  -- what stays true of the iterator's objects through the loop
  have stat : ∀ {H' : Hp}, (∀ b ∈ fp, H' b = none) → ∀ b ∈ fp, FpOk X pins H' b := fun hn b hb => ⟨hn b hb, (f2 b hb).2⟩
  refine codeAny_forLoop_any (fun n s' => ∃ i σ' H', Inv X pins σ' H' s' ∧ tn i s'.heap ∧ (∀ b ∈ fp, H' b = none) ∧ W i n σ' H') ?_ m0 ⟨0, σ, H2, I2, st2, fun b hb => (f2 b hb).1, w0⟩
  rintro n s3 ⟨i, σ3, H3, I3, st3, fr3, w3⟩
  rcases turn i n σ3 H3 w3 with ⟨stop, qn⟩ | ⟨go, N, hN, step⟩
  · refine wpAny_passesOwn hp (thn (T.done X rfl rfl rfl hc i pins s3 σ3 H3 X.xe I3 (stat fr3) st3 stop) fun r s4 ⟨hr, I4⟩ => ?_)
    subst hr
    exact wpAny_execs_nil ⟨σ3, H3, I4, qn⟩
  · refine wpAny_passesOwn hp (thn (T.item X rfl rfl rfl hc i pins s3 σ3 H3 X.xe I3 (stat fr3) st3 go) fun r s4 ⟨u, hr, h4⟩ => ?_)
    subst hr
    refine wpAny_passesOwn hp (thn h4 fun _ s5 ⟨x, H5, I5, r5, y5, st5, fr5⟩ => ?_)
    have I5' := I5.pinned (stat fr5) (T.obj _ _ st5)
    refine wpAny_passesOwn hp (thn (hg _ s5 σ3 H5 x u _ I5' r5 (step x H5 y5)) fun _ s6 ⟨σ6, H6, I6, q6⟩ => ?_)
    refine wpAny_passesOwn hp (thn (hb _ s6 σ6 H6 _ I6 q6) fun f s7 q7 => ?_)
    have again : ∀ {σ7 : St} {H7 : Hp}, Inv X (pins ++ pinsAt fp s5.heap) σ7 H7 s7 → N σ7 H7 → ∃ m, m < n ∧ ∃ i σ' H', Inv X pins σ' H' s7 ∧ tn i s7.heap ∧ (∀ b ∈ fp, H' b = none) ∧ W i m σ' H' := fun {σ7 H7} I7 n7 => by
      obtain ⟨m', hm, w7⟩ := hN σ7 H7 n7
      refine ⟨m', hm, i + 1, σ7, H7, I7.unpinned, T.keep _ _ _ st5 fun b hb o e => (I7.pin (b, o) (List.mem_append_right _ (List.mem_append_right _ (mem_pinsAt hb e)))).1, fun b hb => ?_, w7⟩
      obtain ⟨o, e, d⟩ := T.obj _ _ st5 b hb
      exact (I7.pin (b, o) (List.mem_append_right _ (List.mem_append_right _ (mem_pinsAt hb e)))).2.1
    cases f with
    | next => obtain ⟨σ7, H7, I7, n7⟩ := q7; exact again I7 n7
    | cont => obtain ⟨σ7, H7, I7, n7⟩ := q7; exact again I7 n7
    | brk => obtain ⟨σ7, H7, I7, q7⟩ := q7; exact ⟨σ7, H7, I7.unpinned, q7⟩
    | ret v => obtain ⟨x7, σ7, H7, I7, r7, q7⟩ := q7; exact ⟨x7, σ7, H7, I7.unpinned, r7, q7⟩
end
theorem for_tup {K : PySem.W.Frag} {a : Addr} {xs : List V} {g : TG} {tb : TS} {D : Ends} {σ : St} {H : Hp} (Pv : Nat → St → Hp → Prop) (h0 : Pv 0 σ H) (hl : ∀ i σ H, i ≤ xs.length → Pv i σ H → SqT K H a xs)
    (hs : ∀ i x σ H, xs[i]? = some x → Pv i σ H → g x σ H fun σ2 H2 => tb { D with nx := Pv (i + 1), ct := Pv (i + 1), bk := D.nx } σ2 H2) (hd : ∀ σ H, Pv xs.length σ H → D.nx σ H) :
    ∃ W : Nat → Nat → St → Hp → Prop, (∃ m, W 0 m σ H) ∧ ∀ i m σ H, W i m σ H →
      ((Itt K a).stop i H ∧ D.nx σ H) ∨ ((Itt K a).go i H ∧ ∃ N : St → Hp → Prop, (∀ σ' H', N σ' H' → ∃ m', m' < m ∧ W (i + 1) m' σ' H') ∧ ∀ x H', (Itt K a).yld i H x H' → g x σ H' fun σ2 H2 => tb { D with nx := N, ct := N, bk := D.nx } σ2 H2) := by
  refine ⟨fun i m σ H => m = xs.length - i ∧ i ≤ xs.length ∧ Pv i σ H, ⟨xs.length, by simp, Nat.zero_le _, h0⟩, ?_⟩
  rintro i m σ H ⟨rfl, hi, p⟩
  have q := hl i σ H hi p
  by_cases hlt : i < xs.length
  · refine .inr ⟨⟨xs, xs[i], q, by simp [hlt]⟩, Pv (i + 1), fun σ' H' p' => ⟨xs.length - (i + 1), by omega, rfl, hlt, p'⟩, fun x H' y => ?_⟩
    obtain ⟨e, y⟩ := y
    subst e
    exact hs i x σ _ (y xs q) p
  · have e : i = xs.length := by omega
    subst e
    exact .inl ⟨⟨xs, q, Nat.le_refl _⟩, hd σ H p⟩
end L2
namespace L2
open PySem PySem.Spec PyProof.Rows
abbrev R2 := V → V → Hp → VK → Prop
/-- a two-place operation on values: f is binaryOp op, inplaceOp op or compareOp op -/
def OpR (X : Cx) (f : Value → Value → Sem Value) (r : R2) : Prop :=
  ∀ (pins : List (Addr × Obj)) (s : Shared) (σ : St) (H : Hp) (x y : V) (v u : Value) (Q : VK), Inv X pins σ H s → RelV x v → RelV y u → r x y H Q →
    wpAny (model X.prog X.w) X.A (f v u) (EP X pins σ Q) X.xe s
/-- a one-place operation -/
def UnR (X : Cx) (f : Value → Sem Value) (r : V → Hp → VK → Prop) : Prop :=
  ∀ (pins : List (Addr × Obj)) (s : Shared) (σ : St) (H : Hp) (x : V) (v : Value) (Q : VK), Inv X pins σ H s → RelV x v → r x H Q →
    wpAny (model X.prog X.w) X.A (f v) (EP X pins σ Q) X.xe s
/-- a call of a value that is known (a builtin, a type) with values -/
def CallR (X : Cx) (f : Value) (r : List V → Hp → VK → Prop) : Prop :=
  ∀ (pins : List (Addr × Obj)) (s : Shared) (σ : St) (H : Hp) (xs : List V) (us : List Value) (Q : VK), Inv X pins σ H s → Vals xs us → r xs H Q →
    wpAny (model X.prog X.w) X.A (call f us) (EP X pins σ Q) X.xe s
def tOp (r : R2) (ta tb : TE) : TE := fun σ H Q => ta σ H fun x H1 => tb σ H1 fun y H2 => r x y H2 Q
def tUn (r : V → Hp → VK → Prop) (ta : TE) : TE := fun σ H Q => ta σ H fun x H1 => r x H1 Q
/-- ints in, under C, and a value out -/
def rI (C : Int → Int → Prop) (g : Int → Int → V) : R2 := fun x y H Q => ∃ i j, x = .int i ∧ y = .int j ∧ C i j ∧ Q (g i j) H
def rI0 (g : Int → Int → V) : R2 := fun x y H Q => ∃ i j, x = .int i ∧ y = .int j ∧ Q (g i j) H
def rU (g : Int → V) : V → Hp → VK → Prop := fun x H Q => ∃ i, x = .int i ∧ Q (g i) H
section
variable {X : Cx} {a b c : Expr} {ta tb tc : TE} {pos : Pos}
theorem binT (ha : PE X a ta) (hb : PE X b tb) {pins : List (Addr × Obj)} {s : Shared} {σ : St} {H : Hp} {R : V → V → Hp → Prop} (I : Inv X pins σ H s)
    (h : ta σ H fun x H1 => tb σ H1 fun y H2 => R x y H2) {Q : Value → Shared → Prop} {f : Value → Value → Sem Value}
    (hf : ∀ v u s2 x y H2, Inv X pins σ H2 s2 → RelV x v → RelV y u → R x y H2 → wpAny (model X.prog X.w) X.A (f v u) Q X.xe s2) :
    wpAny (model X.prog X.w) X.A (eval a X.env) (fun v s₁ => wpAny (model X.prog X.w) X.A (eval b X.env) (fun u s₂ => wpAny (model X.prog X.w) X.A (f v u) Q X.xe s₂) X.xe s₁) X.xe s := by
  refine thn (ha pins s σ H _ I h) fun v s1 ⟨x, H1, I1, r1, q1⟩ => ?_
  refine thn (hb pins s1 σ H1 _ I1 q1) fun u s2 ⟨y, H2, I2, r2, q2⟩ => ?_
  exact hf v u s2 x y H2 I2 r1 r2 q2
theorem pe_op {op : Operator} {r : R2} (ho : OpR X (binaryOp op) r) (ha : PE X a ta) (hb : PE X b tb) : PE X (.BinOp a op b pos) (tOp r ta tb) := by
  intro pins s σ H Q I h
  exact wpAny_BinOp (binT ha hb I h fun v u s2 x y H2 I2 rx ry q => ho pins s2 σ H2 x y v u Q I2 rx ry q)
theorem pe_un {op : UnaryOp} {r : V → Hp → VK → Prop} (ho : UnR X (unaryOp op) r) (ha : PE X a ta) : PE X (.UnaryOp op a pos) (tUn r ta) := by
  intro pins s σ H Q I h
  exact UnaryOp_ (thn (ha pins s σ H _ I h) fun v s1 ⟨x, H1, I1, r1, q1⟩ => ho pins s1 σ H1 x v Q I1 r1 q1)
/-! ### ints -/
theorem opI {f : Value → Value → Sem Value} {C : Int → Int → Prop} {g : Int → Int → Int}
    (rule : ∀ (i j : Int) (t u : Tok) (s : Shared) (Q : Value → Shared → Prop) (E : Value → Shared → Prop), C i j → Q (.int (g i j) s.toks) { s with toks := s.toks + 1 } → wpAny (model X.prog X.w) X.A (f (.int i t) (.int j u)) Q E s) :
    OpR X f (rI C fun i j => .int (g i j)) := by
  intro pins s σ H x y v u Q I rx ry h
  obtain ⟨i, j, rfl, rfl, hc, q⟩ := h
  obtain ⟨t, rfl⟩ := rx
  obtain ⟨t', rfl⟩ := ry
  exact rule i j t t' s _ _ hc ⟨.int (g i j), H, I.tok _, ⟨_, rfl⟩, q⟩
theorem opI0 {f : Value → Value → Sem Value} {g : Int → Int → Int}
    (rule : ∀ (i j : Int) (t u : Tok) (s : Shared) (Q : Value → Shared → Prop) (E : Value → Shared → Prop), Q (.int (g i j) s.toks) { s with toks := s.toks + 1 } → wpAny (model X.prog X.w) X.A (f (.int i t) (.int j u)) Q E s) :
    OpR X f (rI0 fun i j => .int (g i j)) := by
  intro pins s σ H x y v u Q I rx ry h
  obtain ⟨i, j, rfl, rfl, q⟩ := h
  obtain ⟨t, rfl⟩ := rx
  obtain ⟨t', rfl⟩ := ry
  exact rule i j t t' s _ _ ⟨.int (g i j), H, I.tok _, ⟨_, rfl⟩, q⟩
theorem opB0 {f : Value → Value → Sem Value} {g : Int → Int → Bool}
    (rule : ∀ (i j : Int) (t u : Tok) (s : Shared) (Q : Value → Shared → Prop) (E : Value → Shared → Prop), Q (.bool (g i j)) s → wpAny (model X.prog X.w) X.A (f (.int i t) (.int j u)) Q E s) :
    OpR X f (rI0 fun i j => .bl (g i j)) := by
  intro pins s σ H x y v u Q I rx ry h
  obtain ⟨i, j, rfl, rfl, q⟩ := h
  obtain ⟨t, rfl⟩ := rx
  obtain ⟨t', rfl⟩ := ry
  exact rule i j t t' s _ _ ⟨.bl (g i j), H, I, rfl, q⟩
def CDiv (i j : Int) : Prop := 0 < j ∧ j < 1073741824
def CPow (i j : Int) : Prop := 0 ≤ j ∧ j ≤ 1000000 ∧ i.natAbs < 2 ^ 64
def CMul (i j : Int) : Prop := (-(2 ^ 64) < i ∧ i < 2 ^ 64) ∨ (-(2 ^ 64) < j ∧ j < 2 ^ 64)
theorem CMul.ok {i j : Int} (h : CMul i j) : IntMulOk i j := by
  rcases h with ⟨h1, h2⟩ | ⟨h1, h2⟩
  · exact .of_left (intBits_le_64 h1 h2)
  · exact .of_right (intBits_le_64 h1 h2)
theorem two_pow_nn (k : Nat) : (0 : Int) ≤ 2 ^ k := by
  rw [two_pow_cast]
  exact Int.natCast_nonneg _
theorem op_add : OpR X (binaryOp .Add) (rI0 fun i j => .int (i + j)) := opI0 fun _ _ _ _ _ _ _ q => add_int q
theorem op_sub : OpR X (binaryOp .Sub) (rI0 fun i j => .int (i - j)) := opI0 fun _ _ _ _ _ _ _ q => sub_int q
theorem op_mul : OpR X (binaryOp .Mult) (rI CMul fun i j => .int (i * j)) := opI fun _ _ _ _ _ _ _ hc q => mul_int q hc.ok
/-- // by a positive divisor -/
theorem op_fdiv : OpR X (binaryOp .FloorDiv) (rI CDiv fun i j => .int (i / j)) := opI fun i j _ _ _ _ _ hc q => by
  have h1 : (0 : Int) < j := hc.1
  have h2 : j < 1073741824 := hc.2
  exact floordiv_int (by omega) (by rw [Int.fdiv_eq_ediv_of_nonneg i (by omega)]; exact q) (.inl (PyProof.noPylong_small (by omega)))
/-- % by a positive divisor of any size -/
theorem op_mod : OpR X (binaryOp .Mod) (rI (fun _ j => 0 < j) fun i j => .int (i % j)) := opI fun i j _ _ _ _ _ hc q => by
  have h1 : (0 : Int) < j := hc
  exact mod_int' (by omega) (by rw [Int.fmod_eq_emod_of_nonneg i (by omega)]; exact q)
theorem op_shl : OpR X (binaryOp .LShift) (rI CPow fun i j => .int (i * 2 ^ j.toNat)) := opI fun _ _ _ _ _ _ _ hc q => lshift_int_small hc.1 hc.2.1 hc.2.2 q
theorem op_shr : OpR X (binaryOp .RShift) (rI (fun _ j => 0 ≤ j) fun i j => .int (i / 2 ^ j.toNat)) := opI fun i j _ _ _ _ _ hc q =>
  rshift_int hc (by rw [Int.fdiv_eq_ediv_of_nonneg i (two_pow_nn _)]; exact q)
theorem op_and : OpR X (binaryOp .BitAnd) (rI0 fun i j => .int (Builtin.bitAnd i j)) := opI0 fun _ _ _ _ _ _ _ q => and_int q
theorem op_or : OpR X (binaryOp .BitOr) (rI0 fun i j => .int (Builtin.bitOr i j)) := opI0 fun _ _ _ _ _ _ _ q => or_int q
theorem op_xor : OpR X (binaryOp .BitXor) (rI0 fun i j => .int (Builtin.bitXor i j)) := opI0 fun _ _ _ _ _ _ _ q => xor_int q
theorem unI {f : Value → Sem Value} {g : Int → Int}
    (rule : ∀ (i : Int) (t : Tok) (s : Shared) (Q : Value → Shared → Prop) (E : Value → Shared → Prop), Q (.int (g i) s.toks) { s with toks := s.toks + 1 } → wpAny (model X.prog X.w) X.A (f (.int i t)) Q E s) :
    UnR X f (rU fun i => .int (g i)) := by
  intro pins s σ H x v Q I rx h
  obtain ⟨i, rfl, q⟩ := h
  obtain ⟨t, rfl⟩ := rx
  exact rule i t s _ _ ⟨.int (g i), H, I.tok _, ⟨_, rfl⟩, q⟩
theorem un_neg : UnR X (unaryOp .USub) (rU fun i => .int (-i)) := unI fun _ _ _ _ _ q => neg_int q
end
/-! ### comparisons -/
/-- the scalars that == tells apart as data does -/
def scal : V → V → Bool
  | .non, .non => true | .non, .int _ => true | .int _, .non => true | .non, .bl _ => true | .bl _, .non => true | .non, .str _ => true | .str _, .non => true
  | .int _, .int _ => true | .bl _, .bl _ => true | .str _, .str _ => true | .byt _, .byt _ => true
  | .int _, .str _ => true | .str _, .int _ => true | .bl _, .str _ => true | .str _, .bl _ => true
  | _, _ => false
def rEq : R2 := fun x y H Q => scal x y = true ∧ Q (.bl (decide (x = y))) H
def rNe : R2 := fun x y H Q => scal x y = true ∧ Q (.bl (!decide (x = y))) H
theorem dec_int {i j : Int} : decide (V.int i = V.int j) = (i == j) := by
  rw [Bool.eq_iff_iff]
  simp
theorem dec_bl {i j : Bool} : decide (V.bl i = V.bl j) = (i == j) := by
  rw [Bool.eq_iff_iff]
  simp
theorem dec_str {i j : Str} : decide (V.str i = V.str j) = (i == j) := by
  rw [Bool.eq_iff_iff]
  simp
theorem dec_byt {i j : Array UInt8} : decide (V.byt i = V.byt j) = (i.toList == j.toList) := by
  rw [Bool.eq_iff_iff]
  cases i
  cases j
  simp
section
variable {X : Cx} {a b c : Expr} {ta tb tc : TE} {pos : Pos}
theorem fin_bl {pins : List (Addr × Obj)} {σ : St} {H : Hp} {s : Shared} {Q : VK} {k k' : Bool} (I : Inv X pins σ H s) (q : Q (.bl k) H) (e : k = k') : EP X pins σ Q (.bool k') s := by
  subst e
  exact ⟨.bl k, H, I, rfl, q⟩
theorem op_eq : OpR X (compareOp .Eq) rEq := by
  intro pins s σ H x y v u Q I rx ry h
  obtain ⟨hs, q⟩ := h
  cases x with
  | non =>
    cases rx
    cases y with
    | non => cases ry; exact PySem.EqNone.eq_none_none (fin_bl I q (by simp))
    | bl j => cases ry; exact PySem.EqNone.eq_none_bool (fin_bl I q (by simp))
    | int j => obtain ⟨t', rfl⟩ := ry; exact PySem.EqNone.eq_none_int (fin_bl I q (by simp))
    | str j => obtain ⟨t', rfl⟩ := ry; exact PySem.EqNone.eq_none_str (fin_bl I q (by simp))
    | _ => exact absurd (show false = true from hs) Bool.false_ne_true
  | bl i =>
    cases rx
    cases y with
    | non => cases ry; exact PySem.EqNone.eq_bool_none (fin_bl I q (by simp))
    | bl j => cases ry; exact eq_bool (fin_bl I q dec_bl)
    | str j => obtain ⟨t', rfl⟩ := ry; exact PySem.EqMixed.eq_bool_str (fin_bl I q (by simp))
    | _ => exact absurd (show false = true from hs) Bool.false_ne_true
  | int i =>
    obtain ⟨t, rfl⟩ := rx
    cases y with
    | non => cases ry; exact PySem.EqNone.eq_int_none (fin_bl I q (by simp))
    | int j => obtain ⟨t', rfl⟩ := ry; exact eq_int (fin_bl I q dec_int)
    | str j => obtain ⟨t', rfl⟩ := ry; exact PySem.EqMixed.eq_int_str (fin_bl I q (by simp))
    | _ => exact absurd (show false = true from hs) Bool.false_ne_true
  | str i =>
    obtain ⟨t, rfl⟩ := rx
    cases y with
    | non => cases ry; exact PySem.EqNone.eq_str_none (fin_bl I q (by simp))
    | bl j => cases ry; exact PySem.EqMixed.eq_str_bool (fin_bl I q (by simp))
    | int j => obtain ⟨t', rfl⟩ := ry; exact PySem.EqMixed.eq_str_int (fin_bl I q (by simp))
    | str j => obtain ⟨t', rfl⟩ := ry; exact eq_str (fin_bl I q dec_str)
    | _ => exact absurd (show false = true from hs) Bool.false_ne_true
  | byt i =>
    obtain ⟨t, rfl⟩ := rx
    cases y with
    | byt j => obtain ⟨t', rfl⟩ := ry; exact PySem.W.eq_bytes (fin_bl I q dec_byt)
    | _ => exact absurd (show false = true from hs) Bool.false_ne_true
  | _ => cases y <;> exact absurd (show false = true from hs) Bool.false_ne_true
theorem op_ne : OpR X (compareOp .NotEq) rNe := by
  intro pins s σ H x y v u Q I rx ry h
  obtain ⟨hs, q⟩ := h
  cases x with
  | non =>
    cases rx
    cases y with
    | non => cases ry; exact PySem.EqNone.ne_none_none (fin_bl I q (by simp))
    | bl j => cases ry; exact PySem.EqNone.ne_none_bool (fin_bl I q (by simp))
    | int j => obtain ⟨t', rfl⟩ := ry; exact PySem.EqNone.ne_none_int (fin_bl I q (by simp))
    | str j => obtain ⟨t', rfl⟩ := ry; exact PySem.EqNone.ne_none_str (fin_bl I q (by simp))
    | _ => exact absurd (show false = true from hs) Bool.false_ne_true
  | bl i =>
    cases rx
    cases y with
    | non => cases ry; exact PySem.EqNone.ne_bool_none (fin_bl I q (by simp))
    | bl j => cases ry; exact ne_bool (fin_bl I q (congrArg not dec_bl))
    | str j => obtain ⟨t', rfl⟩ := ry; exact PySem.EqMixed.ne_bool_str (fin_bl I q (by simp))
    | _ => exact absurd (show false = true from hs) Bool.false_ne_true
  | int i =>
    obtain ⟨t, rfl⟩ := rx
    cases y with
    | non => cases ry; exact PySem.EqNone.ne_int_none (fin_bl I q (by simp))
    | int j => obtain ⟨t', rfl⟩ := ry; exact ne_int (fin_bl I q (congrArg not dec_int))
    | str j => obtain ⟨t', rfl⟩ := ry; exact PySem.EqMixed.ne_int_str (fin_bl I q (by simp))
    | _ => exact absurd (show false = true from hs) Bool.false_ne_true
  | str i =>
    obtain ⟨t, rfl⟩ := rx
    cases y with
    | non => cases ry; exact PySem.EqNone.ne_str_none (fin_bl I q (by simp))
    | bl j => cases ry; exact PySem.EqMixed.ne_str_bool (fin_bl I q (by simp))
    | int j => obtain ⟨t', rfl⟩ := ry; exact PySem.EqMixed.ne_str_int (fin_bl I q (by simp))
    | str j => obtain ⟨t', rfl⟩ := ry; exact ne_str (fin_bl I q (congrArg not dec_str))
    | _ => exact absurd (show false = true from hs) Bool.false_ne_true
  | byt i =>
    obtain ⟨t, rfl⟩ := rx
    cases y with
    | byt j => obtain ⟨t', rfl⟩ := ry; exact PySem.W.ne_bytes (fin_bl I q (congrArg not dec_byt))
    | _ => exact absurd (show false = true from hs) Bool.false_ne_true
  | _ => cases y <;> exact absurd (show false = true from hs) Bool.false_ne_true
theorem op_lt : OpR X (compareOp .Lt) (rI0 fun i j => .bl (decide (i < j))) := opB0 fun _ _ _ _ _ _ _ q => lt_int q
theorem op_gt : OpR X (compareOp .Gt) (rI0 fun i j => .bl (decide (j < i))) := opB0 fun _ _ _ _ _ _ _ q => gt_int q
theorem op_ge : OpR X (compareOp .GtE) (rI0 fun i j => .bl (decide (j ≤ i))) := opB0 fun _ _ _ _ _ _ _ q => ge_int q
/-- two rules for one operation: by cases -/
theorem OpR.or {f : Value → Value → Sem Value} {r r' : R2} (h : OpR X f r) (h' : OpR X f r') : OpR X f (fun x y H Q => r x y H Q ∨ r' x y H Q) := by
  intro pins s σ H x y v u Q I rx ry q
  rcases q with q | q
  · exact h pins s σ H x y v u Q I rx ry q
  · exact h' pins s σ H x y v u Q I rx ry q
theorem nomark (b : Expr) {op : CmpOp} (h : op ≠ .In := by decide) (h2 : op ≠ .NotIn := by decide) : behindInMarks op b = false := by
  have e1 : (op == CmpOp.In) = false := by cases op <;> first | rfl | exact absurd rfl h
  have e2 : (op == CmpOp.NotIn) = false := by cases op <;> first | rfl | exact absurd rfl h2
  cases b <;> simp [behindInMarks, e1, e2]
/-- a comparison as a value; hm: nomark b, or (for in, not in) by with_unfolding_all rfl -/
theorem pe_cmpR {op : CmpOp} {r : R2} (ho : OpR X (compareOp op) r) (ha : PE X a ta) (hb : PE X b tb) (hm : behindInMarks op b = false) : PE X (.Compare a [op] [b] pos) (tOp r ta tb) := by
  intro pins s σ H Q I h
  exact wpAny_Compare1 (binT ha hb I h fun v u s2 x y H2 I2 rx ry q => ho pins s2 σ H2 x y v u Q I2 rx ry q) hm
/-- a reading of a value as a test -/
def tTest (t : TE) : TT := fun σ H Q => t σ H fun x H' => ∃ k, x = .bl k ∧ Q k H'
theorem pt_cmpR {op : CmpOp} {r : R2} (ho : OpR X (compareOp op) r) (ha : PE X a ta) (hb : PE X b tb) (hm : behindInMarks op b = false) : PT X (.Compare a [op] [b] pos) (tTest (tOp r ta tb)) := by
  intro pins s σ H Q I h
  refine wpAny_isTrue_Compare1 (thn (ha pins s σ H _ I h) fun v s1 ⟨x, H1, I1, r1, q1⟩ => thn (hb pins s1 σ H1 _ I1 q1) fun u s2 ⟨y, H2, I2, r2, q2⟩ =>
    thn (ho pins s2 σ H2 x y v u _ I2 r1 r2 q2) fun c s3 ⟨z, H3, I3, r3, k, e, q3⟩ => ?_) hm
  subst e
  cases r3
  exact wpAny_truthy_bool ⟨H3, I3, q3⟩
/-- a op1 b op2 c -/
def tChain (r r' : R2) (ta tb tc : TE) : TE := fun σ H Q => ta σ H fun x H1 => tb σ H1 fun y H2 => r x y H2 fun z H3 => ∃ k, z = .bl k ∧
  (if k = true then tc σ H3 fun w' H4 => r' y w' H4 Q else Q (.bl false) H3)
theorem line63 : (sizeLine : Nat) < 2 ^ 63 := by rw [sizeLine_eq]; decide
/-! ### scalar builtins, by CallR -/
theorem vals1 {x : V} {us : List Value} (r : Vals [x] us) : ∃ u, us = [u] ∧ RelV x u := by
  cases r with
  | cons r1 r2 => cases r2; exact ⟨_, rfl, r1⟩
theorem vals2 {x y : V} {us : List Value} (r : Vals [x, y] us) : ∃ u w', us = [u, w'] ∧ RelV x u ∧ RelV y w' := by
  cases r with
  | cons r1 r2 =>
    cases r2 with
    | cons r3 r4 => cases r4; exact ⟨_, _, rfl, r1, r3⟩
theorem call_max2 (hc : X.calm = true) : CallR X (.builtin "max") (fun xs H Q => ∃ i j, xs = [.int i, .int j] ∧ Q (.int (if j > i then j else i)) H) := by
  intro pins s σ H xs us Q I r h
  obtain ⟨i, j, rfl, q⟩ := h
  obtain ⟨u, w', rfl, ⟨t, rfl⟩, ⟨t', rfl⟩⟩ := vals2 r
  refine max_two_ints (I.ok.hd hc) fun h' tk k => ⟨_, H, I.kept k, ?_, q⟩
  by_cases hj : j > i
  · rw [if_pos hj, if_pos hj]; exact ⟨_, rfl⟩
  · rw [if_neg hj, if_neg hj]; exact ⟨_, rfl⟩
theorem call_min2 (hc : X.calm = true) : CallR X (.builtin "min") (fun xs H Q => ∃ i j, xs = [.int i, .int j] ∧ Q (.int (if j < i then j else i)) H) := by
  intro pins s σ H xs us Q I r h
  obtain ⟨i, j, rfl, q⟩ := h
  obtain ⟨u, w', rfl, ⟨t, rfl⟩, ⟨t', rfl⟩⟩ := vals2 r
  refine min_two_ints (I.ok.hd hc) fun h' tk k => ⟨_, H, I.kept k, ?_, q⟩
  by_cases hj : j < i
  · rw [if_pos hj, if_pos hj]; exact ⟨_, rfl⟩
  · rw [if_neg hj, if_neg hj]; exact ⟨_, rfl⟩
end
end L2
namespace L2
open PySem PySem.Spec PyProof.Rows
/-! ### an instance, its attributes a map -/
structure ObjM (h : Heap) (x dx C : Addr) (mA : Str → Option Value) : Prop where
  obj : h.get? x = some (PySem.W.instObj C dx)
  ns : h.Ns1 dx mA
  ne : dx ≠ x
theorem lookIn_ns {h : Heap} {dx : Addr} {mA : Str → Option Value} (n : h.Ns1 dx mA) : ∃ od, h.get? dx = some od ∧ ∀ name, PySem.W.lookIn name od = some (mA name) := by
  obtain ⟨o, es, ep, ho, hd, hk, _, hm⟩ := n
  refine ⟨o, ho, fun name => ?_⟩
  have e := hm name
  unfold nsFind findBy at e
  rw [← Array.find?_toList] at e
  unfold PySem.W.lookIn
  rw [hd]
  dsimp only
  split
  · rename_i y q
    rw [q] at e
    exact congrArg some e
  · rename_i q
    rw [q] at e
    have a : es.toList.any (·.refKey) = false := by
      rw [List.any_eq_false]
      intro y hy
      obtain ⟨z, t, hkey⟩ := hk y (Array.mem_toList_iff.mp hy)
      simp [DictEntry.refKey, hkey]
    have a' : ¬ es.toList.any (·.refKey) = true := by rw [a]; exact Bool.false_ne_true
    rw [if_neg a']
    exact congrArg some e
theorem ObjM.look {h : Heap} {x dx C : Addr} {mA : Str → Option Value} (I : ObjM h x dx C mA) : ∃ od, PySem.W.InstAt h x (PySem.W.instObj C dx) C (some od) ∧ ∀ name, PySem.W.lookIn name od = some (mA name) :=
  let ⟨od, ho, hl⟩ := lookIn_ns I.ns
  ⟨od, ⟨I.obj, rfl, rfl, ho⟩, hl⟩
section
variable {prog : Program} {w : World} {A : Around} {E : Value → Shared → Prop} {s : Shared} {K : PySem.W.Frag} {x dx C f : Addr} {mA : Str → Option Value} {name : Str} {v : Value}
theorem get_map {expr : Bool} {Q : Value → Shared → Prop} (X : K.In s.heap) (I : ObjM s.heap x dx C mA) (hg : PySem.W.plainGet K C name = true) (hh : PySem.W.hasDictIn K C = true)
    (ha : PySem.W.findIn K (.ref C) name = some none) (hv : mA name = some v) (hv' : PySem.W.handedIn v = true) (h : Q v { s with toks := s.toks + 1 }) :
    wpAny (model prog w) A (getAttr (.ref x) name expr) Q E s := by
  obtain ⟨od, J, hl⟩ := I.look
  exact PySem.W.get_value X J (PySem.W.plainGet_of hg).1 (PySem.W.findObj_own hh ha rfl (by rw [hl, hv])) hv' h
theorem get_meth {pl : Sem Bool} {Q : Value × List Value → Shared → Prop} (X : K.In s.heap) (I : ObjM s.heap x dx C mA) (hg : PySem.W.plainGet K C name = true)
    (hf : PySem.W.findIn K (.ref C) name = some (some (.ref f))) (ht : PySem.W.isFn K (.ref f) = true) (hv : mA name = none) (h : Q (.ref f, [.ref x]) s) :
    wpAny (model prog w) A (getMethod (.ref x) name pl) Q E s := by
  obtain ⟨od, J, hl⟩ := I.look
  exact PySem.W.method_fn X J (PySem.W.plainGet_of hg).1 (PySem.W.plainGet_of hg).2 hf (beq_iff_eq.mp ht) (by show (PySem.W.lookIn name od).map (·.isSome) = some false; rw [hl, hv]; rfl) h
theorem set_map {ns : List Str} {Q : Unit → Shared → Prop} (X : K.In s.heap) (I : ObjM s.heap x dx C mA)
    (hs : PySem.W.findIn K (.ref C) "__setattr__" = some (some (.builtin "object.__setattr__"))) (hp : PySem.W.plainOver K C = true) (ht : PySem.W.takerIn K C name = some none) (hh : PySem.W.hasDictIn K C = true)
    (hw : PySem.Within mA ns) (hsz : ns.length ≤ sizeLine)
    (h : ∀ h', ObjM h' x dx C (fun y => if y = name then some v else mA y) → Heap.SameBut dx s.heap h' → Q () { s with heap := h', toks := s.toks + 2 }) :
    wpAny (model prog w) A (setAttr (.ref x) name v) Q E s := by
  obtain ⟨od, J, hl⟩ := I.look
  refine PySem.W.set_plain X J hs (PySem.W.osa_open (s := { s with toks := s.toks + 1 }) (r := none) X J hp ht fun b => ?_)
  obtain ⟨cd, hc, hd'⟩ := PySem.W.any_some hh
  have hx : s.heap.get? x = some ⟨.ref C, some dx, .plain, #[]⟩ := I.obj
  refine wpAny_bind (wpAny_pure (wpAny_bind (wpAny_bind (wpAny_loadPart hx (wpAny_bind (PySem.W.Looks.here (s := { s with toks := s.toks + 1 }) (PySem.W.looks_clsIn X hc) ?_))))))
  rw [hd']
  refine wpAny_pure (a := some dx) (wpAny_bind (wpAny_pure (wpAny_bind ?_)))
  refine wpAny_nsSet1 (s := { s with toks := s.toks + 1 }) I.ns fun h' hn2 hs2 => ?_
  obtain ⟨oD, esD, epD, hoD, hdD, hcD⟩ := hn2.count (PySem.Within.cons name v hw)
  refine wpAny_bind (wpAny_lookBehind hoD (by rw [hdD]; exact pastItsLine_dict (Nat.le_trans hcD (by rw [List.length_cons]; omega))) ?_)
  exact wpAny_pure (h _ ⟨(hs2.2 _ (Ne.symm I.ne)).trans I.obj, hn2, I.ne⟩ hs2)
/-- C(..): the dict at the heap's end, the instance behind it; then its __init__ -/
theorem make_map {R : Result → Shared → Prop} {vs : List Value} {kw : List (Str × Value)} (X : K.In s.heap) (hm : PySem.W.makesIn K C = true)
    (hi : PySem.W.findIn K (.ref C) "__init__" = some (some (.ref f))) (hf : PySem.W.typeIn K (.ref f) = some (.type "function"))
    (h : codeAny (model prog w) (A.under (.builtin "type.__call__" ⟨.ref C :: vs, kw⟩)) (.call (.ref f) ⟨.ref (s.heap.objs.size + 1) :: vs, kw⟩) (PySem.W.InitBack (s.heap.objs.size + 1) R)
      { s with heap := (s.heap.push PySem.W.emptyDict).push (PySem.W.instObj C s.heap.objs.size) }) :
    codeAny (model prog w) A (.call (.ref C) ⟨vs, kw⟩) R s := by
  obtain ⟨hh, g, d, t, os⟩ := s
  exact PySem.W.make_core (PySem.W.makes_of X hm) (PySem.W.looks_findIn X hi) (fun self => PySem.W.bind_fn X self hf) (.inl rfl) h
end
/-! ### the attributes as a list of pairs -/
def putF (f : Str) (v : V) : List (Str × V) → List (Str × V)
  | [] => [(f, v)]
  | (g, x) :: r => if g = f then (g, v) :: r else (g, x) :: putF f v r
theorem lookup_putF (f g : Str) (v : V) : ∀ fs : List (Str × V), (putF f v fs).lookup g = if g = f then some v else fs.lookup g
  | [] => by
    show List.lookup g [(f, v)] = _
    by_cases h : g = f
    · have hb : (g == f) = true := beq_iff_eq.mpr h
      simp only [List.lookup, hb, if_pos h]
    · have hb : (g == f) = false := beq_eq_false_iff_ne.mpr h
      simp only [List.lookup, hb, if_neg h]
  | (k, x) :: r => by
    have ih := lookup_putF f g v r
    rw [show putF f v ((k, x) :: r) = (if k = f then (k, v) :: r else (k, x) :: putF f v r) from rfl]
    by_cases hk : k = f
    · rw [if_pos hk]
      by_cases h : g = k
      · have hb : (g == k) = true := beq_iff_eq.mpr h
        simp only [List.lookup, hb, if_pos (h.trans hk)]
      · have hb : (g == k) = false := beq_eq_false_iff_ne.mpr h
        simp only [List.lookup, hb, if_neg (fun e : g = f => h (e.trans hk.symm))]
    · rw [if_neg hk]
      by_cases h : g = k
      · have hb : (g == k) = true := beq_iff_eq.mpr h
        simp only [List.lookup, hb, if_neg (fun e : g = f => hk (h.symm.trans e))]
      · have hb : (g == k) = false := beq_eq_false_iff_ne.mpr h
        simp only [List.lookup, hb]
        exact ih
theorem keys_putF (f : Str) (v : V) : ∀ fs : List (Str × V), f ∈ (putF f v fs).map (·.1) ∧ ∀ g, g ∈ fs.map (·.1) → g ∈ (putF f v fs).map (·.1)
  | [] => ⟨by simp [putF], fun g h => by simp at h⟩
  | (k, x) :: r => by
    obtain ⟨i1, i2⟩ := keys_putF f v r
    rw [show putF f v ((k, x) :: r) = (if k = f then (k, v) :: r else (k, x) :: putF f v r) from rfl]
    by_cases hk : k = f
    · rw [if_pos hk]
      subst hk
      exact ⟨by simp, fun g h => by simpa using h⟩
    · rw [if_neg hk]
      refine ⟨?_, fun g h => ?_⟩
      · rw [List.map_cons]
        exact List.mem_cons_of_mem _ i1
      · rw [List.map_cons] at h ⊢
        rcases List.mem_cons.mp h with e | e
        · exact List.mem_cons.mpr (.inl e)
        · exact List.mem_cons_of_mem _ (i2 g e)
theorem length_putF (f : Str) (v : V) : ∀ fs : List (Str × V), (putF f v fs).length ≤ fs.length + 1
  | [] => by simp [putF]
  | (k, x) :: r => by
    have ih := length_putF f v r
    rw [show putF f v ((k, x) :: r) = (if k = f then (k, v) :: r else (k, x) :: putF f v r) from rfl]
    by_cases hk : k = f
    · rw [if_pos hk, List.length_cons, List.length_cons]; omega
    · rw [if_neg hk, List.length_cons, List.length_cons]; omega
theorem RelO.some_of {v : V} {o : Option Value} (r : RelO (some v) o) : ∃ u, o = some u ∧ RelV v u := by
  cases o with
  | none => exact (show False from r).elim
  | some u => exact ⟨u, rfl, r⟩
theorem RelO.none_of {o : Option Value} (r : RelO none o) : o = none := by
  cases o with
  | none => rfl
  | some u => exact (show False from r).elim
theorem handed_of {v : V} {u : Value} (r : RelV v u) : PySem.W.handedIn u = true := by
  cases v with
  | non => cases (show u = Value.none from r); rfl
  | bl b => cases (show u = Value.bool b from r); rfl
  | int i => obtain ⟨t, e⟩ := (show ∃ t, u = Value.int i t from r); cases e; rfl
  | str x => obtain ⟨t, e⟩ := (show ∃ t, u = Value.str x t from r); cases e; rfl
  | byt b => obtain ⟨t, e⟩ := (show ∃ t, u = Value.bytes b t from r); cases e; rfl
  | flt b => obtain ⟨t, e⟩ := (show ∃ t, u = Value.float b t from r); cases e; rfl
  | ref a => cases (show u = Value.ref a from r); rfl
  | ty n => cases (show u = Value.type n from r); rfl
section
variable {P : Program} {w : World} {H H' : Hp} {h h' : Heap} {a C dx : Addr} {fs fs' : List (Str × V)}
theorem ins_get (hok : HOk P w H h) (e : H a = some (.ins C dx fs)) : ∃ mA, ObjM h a dx C mA ∧ (∀ f, RelO (fs.lookup f) (mA f)) ∧ PySem.Within mA (fs.map (·.1)) ∧ fs.length ≤ 1000 ∧ H dx = some (.own a) := by
  obtain ⟨d, z, ne, ob, mA, n, r, q⟩ := (show ObjOk P w H h a (.ins C dx fs) from hok a _ e)
  exact ⟨mA, ⟨ob, n, ne⟩, r, q, z, d⟩
end
/-! ### what of the text a class must have -/
structure Cls (K : PySem.W.Frag) (C : Addr) : Prop where
  pg : PySem.W.plainGet K C Str.empty = true
  hd : PySem.W.hasDictIn K C = true
  po : PySem.W.plainOver K C = true
  sa : PySem.W.findIn K (.ref C) "__setattr__" = some (some (.builtin "object.__setattr__"))
theorem Cls.get {K : PySem.W.Frag} {C : Addr} (c : Cls K C) (f : Str) : PySem.W.plainGet K C f = true := c.pg
/-- no class of it has the name -/
def NoAttr (K : PySem.W.Frag) (C : Addr) (f : Str) : Prop := PySem.W.findIn K (.ref C) f = some none
theorem NoAttr.taker {K : PySem.W.Frag} {C : Addr} {f : Str} (n : NoAttr K C f) : PySem.W.takerIn K C f = some none := by
  unfold PySem.W.takerIn
  rw [show PySem.W.findIn K (.ref C) f = some none from n]
  rfl
/-- a method: a plain def of the class or of one above it -/
structure Meth (K : PySem.W.Frag) (C : Addr) (m : Str) (f : Addr) : Prop where
  at_ : PySem.W.findIn K (.ref C) m = some (some (.ref f))
  fn : PySem.W.isFn K (.ref f) = true
  kp : PySem.W.keepIn K (.ref f) = true
section
variable {X : Cx} {pins : List (Addr × Obj)} {σ : St} {H : Hp} {s : Shared} {a C dx : Addr} {fs : List (Str × V)} {f : Str} {v : V} {A : Around} {E : Value → Shared → Prop}
theorem getattr_ok {b : Bool} {Q : Value → Shared → Prop} (I : Inv X pins σ H s) (e : H a = some (.ins C dx fs)) (c : Cls X.K C) (n : NoAttr X.K C f) (l : fs.lookup f = some v)
    (h : ∀ u s', Inv X pins σ H s' → RelV v u → Q u s') : wpAny (model X.prog X.w) A (getAttr (.ref a) f b) Q E s := by
  obtain ⟨mA, O, r, _, _, _⟩ := ins_get I.hok e
  obtain ⟨u, hu, ru⟩ := RelO.some_of (v := v) (o := mA f) (by rw [← l]; exact r f)
  exact get_map I.kIn O (c.get f) c.hd n hu (handed_of ru) (h u _ (I.tok _) ru)
theorem getmeth_ok {m : Str} {g : Addr} {pl : Sem Bool} {Q : Value × List Value → Shared → Prop} (I : Inv X pins σ H s) (e : H a = some (.ins C dx fs)) (c : Cls X.K C) (k : Meth X.K C m g) (l : fs.lookup m = none)
    (h : Q (.ref g, [.ref a]) s) : wpAny (model X.prog X.w) A (getMethod (.ref a) m pl) Q E s := by
  obtain ⟨mA, O, r, _, _, _⟩ := ins_get I.hok e
  have hn : mA m = none := RelO.none_of (by rw [← l]; exact r m)
  exact get_meth I.kIn O (c.get m) k.at_ k.fn hn h
theorem setattr_ok {y : V} {u : Value} {Q : Unit → Shared → Prop} (I : Inv X pins σ H s) (e : H a = some (.ins C dx fs)) (c : Cls X.K C) (n : NoAttr X.K C f) (hl : fs.length < 1000) (ry : RelV y u)
    (h : ∀ s', Inv X pins σ (upd H a (.ins C dx (putF f y fs))) s' → Q () s') : wpAny (model X.prog X.w) A (setAttr (.ref a) f u) Q E s := by
  obtain ⟨mA, O, r, wi, _, ho⟩ := ins_get I.hok e
  have hz : (fs.map (·.1)).length ≤ sizeLine := by rw [List.length_map, sizeLine_eq]; omega
  refine set_map I.kIn O c.sa c.po n.taker c.hd wi hz fun h' O' sb => h _ ?_
  have hd : ∃ o, h'.get? dx = some o := let ⟨o, _, _, e', _⟩ := O'.ns; ⟨o, e'⟩
  refine I.write (x := a) (e := dx) (by rw [e]; exact True.intro) (.inr ho) (fun b q hb z => (sb.2 b hb).trans z) hd ?_
  refine ⟨by rw [upd_ne O.ne]; exact ho, ?_, O.ne, O'.obj, _, O'.ns, fun g => ?_, fun g hg => ?_⟩
  · have := length_putF f y fs; omega
  · show RelO ((putF f y fs).lookup g) (if g = f then some u else mA g)
    rw [lookup_putF]
    by_cases q : g = f
    · rw [if_pos q, if_pos q]; exact ry
    · rw [if_neg q, if_neg q]; exact r g
  · by_cases q : g = f
    · rw [q]; exact (keys_putF f y fs).1
    · refine (keys_putF f y fs).2 g (wi g fun z => hg ?_)
      show (if g = f then some u else mA g) = none
      rw [if_neg q]; exact z
/-- a new instance, tracked, without attributes -/
theorem Inv.made (I : Inv X pins σ H s) : Inv X pins σ (upd (upd H s.heap.objs.size (.own (s.heap.objs.size + 1))) (s.heap.objs.size + 1) (.ins C s.heap.objs.size []))
    { s with heap := (s.heap.push PySem.W.emptyDict).push (PySem.W.instObj C s.heap.objs.size) } := by
  have e1 : (s.heap.push PySem.W.emptyDict).get? s.heap.objs.size = some PySem.W.emptyDict := Heap.get?_push_size s.heap rfl
  have e2 : ((s.heap.push PySem.W.emptyDict).push (PySem.W.instObj C s.heap.objs.size)).get? (s.heap.objs.size + 1) = some (PySem.W.instObj C s.heap.objs.size) := by
    have := Heap.get?_push_size (s.heap.push PySem.W.emptyDict) (o := PySem.W.instObj C s.heap.objs.size) rfl
    rwa [Heap.size_push] at this
  have e3 : (s.heap.push PySem.W.emptyDict).Ns s.heap.objs.size (fun _ => none) := ⟨PySem.W.emptyDict, #[], _, e1, rfl, (fun e he => absurd he (by simp)), fun _ => rfl⟩
  have I1 := I.laid (a := s.heap.objs.size) (o := .own (s.heap.objs.size + 1)) (h' := s.heap.push PySem.W.emptyDict) (t' := s.toks) (fun b u q => Heap.get?_push_of_some _ q) (Nat.le_refl _) ⟨_, e1⟩
  refine I1.laid (a := s.heap.objs.size + 1) (o := .ins C s.heap.objs.size []) (t' := s.toks) (fun b u q => Heap.get?_push_of_some _ q) (Nat.le_of_eq (Heap.size_push _ _)) ?_
  have ne : s.heap.objs.size ≠ s.heap.objs.size + 1 := Nat.ne_of_lt (Nat.lt_succ_self _)
  refine ⟨by rw [upd_ne ne, upd_same], Nat.zero_le _, ne, e2, fun _ => none, (Heap.Ns1.of_empty e3).at fun o q => Heap.get?_push_of_some _ q, fun _ => True.intro, fun y hy => absurd rfl hy⟩
/-- e.f where nothing but the object is asked: through attributeBase (super) and the last hold -/
theorem attr_of {prog : Program} {w : World} {env : Env} {e : Expr} {f : Str} {pos : Pos} {s : Shared} {Q : Value → Shared → Prop} (hb : attributeBase e f env (eval e env) = eval e env)
    (h : wpAny (model prog w) A (eval e env) (fun o s₁ => wpAny (model prog w) A (getAttr o f true) Q E s₁) E s) : wpAny (model prog w) A (eval (.Attribute e f pos) env) Q E s :=
  Attribute_any_ h (by rw [arm_eval_Attribute, hb])
end
/-! ### readings and rules -/
/-- e.f, an attribute of the instance -/
def tFld (K : PySem.W.Frag) (ta : TE) (f : Str) : TE := fun σ H Q => ta σ H fun x H1 => ∃ a C dx fs v, x = .ref a ∧ H1 a = some (.ins C dx fs) ∧ Cls K C ∧ NoAttr K C f ∧ fs.lookup f = some v ∧ Q v H1
section
variable {X : Cx} {o e value : Expr} {f : Str} {pos pos' tpos : Pos} {ta tv : TE}
theorem pe_fld (he : PE X e ta) (hb : attributeBase e f X.env (eval e X.env) = eval e X.env) : PE X (.Attribute e f pos) (tFld X.K ta f) := by
  intro pins s σ H Q I h
  refine attr_of hb (thn (he pins s σ H _ I h) fun u s1 ⟨x, H1, I1, rx, a, C, dx, fs, v, ex, ea, c, n, l, q⟩ => ?_)
  subst ex
  obtain rfl : u = Value.ref a := rx
  exact getattr_ok I1 ea c n l fun u' s2 I2 ru => ⟨v, H1, I2, ru, q⟩
end
/-! ### isinstance -/
section
variable {X : Cx} {pins : List (Addr × Obj)} {σ : St} {H : Hp} {s : Shared} {A : Around} {E : Value → Shared → Prop} {Q : Value → Shared → Prop} {c : Value} {b : Bool}
end
end L2
namespace L2
open PySem PySem.Spec PyProof.Rows
/-! ### room -/
structure Room (k : Nat) (A : Around) : Prop where
  hd : A.handled = none
  dp : A.depth + 3 * k + 5 < recursionLimit
  un : A.units + 16 * k + 200 < cLine
theorem Room.mono {j k : Nat} {A : Around} (r : Room k A) (h : j ≤ k) : Room j A := ⟨r.hd, by have := r.dp; omega, by have := r.un; omega⟩
theorem Room.deeper {k : Nat} {A : Around} (r : Room (k + 1) A) (env : Env) : Room k (A.deeper env) :=
  ⟨r.hd, by have := r.dp; show A.depth + 1 + 3 * k + 5 < _; omega, by have := r.un; show A.units + 3 + 16 * k + 200 < _; omega⟩
theorem Room.in1 {k : Nat} {A : Around} (r : Room (k + 1) A) : Room k A.in1 :=
  ⟨r.hd, by have := r.dp; show A.depth + 3 * k + 5 < _; omega, by have := r.un; show A.units + 1 + 16 * k + 200 < _; omega⟩
theorem make_depth {A : Around} {C : Addr} {us : List Value} {kw : List (Str × Value)} : (A.under (.builtin "type.__call__" ⟨.ref C :: us, kw⟩)).depth = A.depth + 1 := by
  first | rfl | simp [Around.under, Code.weight, Code.isCreation, Code.isGuard, Code.isCaller, Code.frames, Code.isFrame, guardIds]
theorem make_units {A : Around} {C : Addr} {us : List Value} {kw : List (Str × Value)} : (A.under (.builtin "type.__call__" ⟨.ref C :: us, kw⟩)).units = A.units + 1 := by
  first | rfl | simp [Around.under, Code.cUnits, Code.frames, Code.isFrame]
theorem Room.make {k : Nat} {A : Around} (r : Room (k + 1) A) (C : Addr) (us : List Value) (kw : List (Str × Value)) : Room k (A.under (.builtin "type.__call__" ⟨.ref C :: us, kw⟩)) :=
  ⟨r.hd, by have := r.dp; rw [make_depth]; omega, by have := r.un; rw [make_units]; omega⟩
theorem Room.depth {k : Nat} {A : Around} (r : Room k A) : A.depth < recursionLimit := by have := r.dp; omega
theorem Room.units {k : Nat} {A : Around} (r : Room k A) : A.units + 64 < cLine := by have := r.un; omega
/-! ### argument lists and displays -/
def tNil : TA := fun _ H Q => Q [] H
def tCons (ta : TE) (tr : TA) : TA := fun σ H Q => ta σ H fun x H1 => tr σ H1 fun xs H2 => Q (x :: xs) H2
section
variable {X : Cx} {e : Expr} {es : List Expr} {te : TE} {t : TA} {pos : Pos}
theorem pa_nil : PA X [] tNil := fun _ _ _ _ H Q I h => Calls.spliced_nil ⟨[], H, I, .nil, h⟩
theorem pa_cons (ha : PE X e te) (hr : PA X es t) (hs : starEach (e :: es) X.env = (false, eval e X.env) :: starEach es X.env := by rfl) : PA X (e :: es) (tCons te t) := by
  intro pos pins s σ H Q I h
  rw [hs]
  show wpAny _ _ (spliced ((false, eval e X.env) :: backTo pos (starEach es X.env))) _ _ s
  refine Calls.spliced_cons (thn (ha pins s σ H _ I h) fun u s1 ⟨x, H1, I1, r1, q1⟩ => ?_)
  exact thn (hr pos pins s1 σ H1 _ I1 q1) fun us s2 ⟨xs, H2, I2, r2, q2⟩ => ⟨x :: xs, H2, I2, .cons r1 r2, q2⟩
/-- a tuple, a list of written items -/
def tTup (t : TA) : TE := fun σ H Q => t σ H fun xs H1 => xs.length ≤ sizeLine ∧ ∀ p, H1 p = none → Q (.ref p) (upd H1 p (.tup xs))
def tLst (t : TA) : TE := fun σ H Q => t σ H fun xs H1 => xs.length ≤ sizeLine ∧ ∀ p, H1 p = none → Q (.ref p) (upd H1 p (.lst xs))
end
/-! ### what a def promises -/
/-- a def's promise: the bound arguments in the parameters' order, the heap, the wanted end, the wanted exception -/
abbrev Sp := List V → Hp → VK → XK → Prop
/-- how an exception lies behind a call (file 08 gives it): the callers' frames, abstract heap and state ahead of the call, the wish, the exception, the state -/
abbrev CXT := List Env → Hp → Shared → XK → Value → Shared → Prop
/-- the state at a call -/
structure Env0 (P : Program) (w : World) (K : PySem.W.Frag) (mg : Str → Option Value) (base : Heap) (A : Around) (outer : List Env) (s : Shared) (H : Hp) : Prop where
  frames : A.frames = some outer
  mod : Mod K mg base
  bs : ∀ b o, base.get? b = some o → s.heap.get? b = some o ∧ H b = none
  bsz : base.objs.size ≤ s.heap.objs.size
  funs : s.heap.FunFrames base outer
  frf : ∀ b ∈ frs outer, H b = none
  hok : HOk P w H s.heap
  bare : AllBare s.gens
/-- a call's end -/
def CE (outer : List Env) (P : Program) (w : World) (H : Hp) (s : Shared) (Q : VK) (u : Value) (s' : Shared) : Prop :=
  ∃ v H', s'.os = s.os ∧ AllBare s'.gens ∧ Un (frs outer) [] H H' s.heap s'.heap ∧ HOk P w H' s'.heap ∧ RelV v u ∧ Q v H'
def CR (CX : CXT) (outer : List Env) (P : Program) (w : World) (H : Hp) (s : Shared) (Q : VK) (E : XK) (r : Result) (s' : Shared) : Prop :=
  match r with
  | .ok (.ret u) => CE outer P w H s Q u s'
  | .ok _ => False
  | .error e => CX outer H s E e s'
structure FnOk (P : Program) (w : World) (K : PySem.W.Frag) (mg : Str → Option Value) (base : Heap) (CX : CXT) (k : Nat) (f : Addr) (fd : FuncData) (ps : List Str) (sp : Sp) : Prop where
  len : ∀ vs H Q E, sp vs H Q E → vs.length = ps.length
  run : ∀ (A : Around) (outer : List Env) (s : Shared) (H : Hp) (args : Args) (us : List Value) (vs : List V) (Q : VK) (E : XK), Room k A → Env0 P w K mg base A outer s H → BindsTo s fd args (ps.zip us) → Vals vs us → sp vs H Q E →
    codeAny (model P w) A (.call (.ref f) args) (CR CX outer P w H s Q E) s
theorem FnOk.mono {P : Program} {w : World} {K : PySem.W.Frag} {mg : Str → Option Value} {base : Heap} {CX : CXT} {j k : Nat} {f : Addr} {fd : FuncData} {ps : List Str} {sp : Sp} (F : FnOk P w K mg base CX j f fd ps sp) (h : j ≤ k) :
    FnOk P w K mg base CX k f fd ps sp := ⟨F.len, fun A outer s H args us vs Q E hr => F.run A outer s H args us vs Q E (hr.mono h)⟩
/-- a weaker promise -/
theorem FnOk.imp {P : Program} {w : World} {K : PySem.W.Frag} {mg : Str → Option Value} {base : Heap} {CX : CXT} {k : Nat} {f : Addr} {fd : FuncData} {ps : List Str} {sp sp' : Sp} (F : FnOk P w K mg base CX k f fd ps sp)
    (h : ∀ vs H Q E, sp' vs H Q E → sp vs H Q E) : FnOk P w K mg base CX k f fd ps sp' :=
  ⟨fun vs H Q E q => F.len vs H Q E (h _ _ _ _ q), fun A outer s H args us vs Q E hr he hb hv hs => F.run A outer s H args us vs Q E hr he hb hv (h _ _ _ _ hs)⟩
theorem Env0.make {P : Program} {w : World} {K : PySem.W.Frag} {mg : Str → Option Value} {base : Heap} {A : Around} {outer : List Env} {s : Shared} {H : Hp} (e : Env0 P w K mg base A outer s H) (C : Addr) (us : List Value) (kw : List (Str × Value)) :
    Env0 P w K mg base (A.under (.builtin "type.__call__" ⟨.ref C :: us, kw⟩)) outer s H := ⟨by first | exact e.frames | (simpa [Around.under, Code.envs, Code.isFrame, pushEnvs] using e.frames), e.mod, e.bs, e.bsz, e.funs, e.frf, e.hok, e.bare⟩
theorem Env0.in1 {P : Program} {w : World} {K : PySem.W.Frag} {mg : Str → Option Value} {base : Heap} {A : Around} {outer : List Env} {s : Shared} {H : Hp} (e : Env0 P w K mg base A outer s H) :
    Env0 P w K mg base A.in1 outer s H := ⟨e.frames, e.mod, e.bs, e.bsz, e.funs, e.frf, e.hok, e.bare⟩
section
variable {X : Cx} {pins : List (Addr × Obj)} {σ : St} {H : Hp} {s s' : Shared}
/-- from a body: what a callee wants -/
theorem Inv.env0 (I : Inv X pins σ H s) : Env0 X.prog X.w X.K X.mg X.base X.A X.stack s H :=
  ⟨I.ok.frames, I.ok.mod, I.bs, Nat.le_trans I.ok.bsz I.sz, I.stack, I.stkFree, I.hok, I.bare⟩
/-- behind a call -/
theorem Inv.after {Q : VK} {u : Value} (I : Inv X pins σ H s) (h : CE X.stack X.prog X.w H s Q u s') : EP X pins σ Q u s' := by
  obtain ⟨v, H', os, bare, un, hok, r, q⟩ := h
  obtain ⟨hh, g, d, t, os'⟩ := s'
  obtain rfl : os' = s.os := os
  exact ⟨v, H', I.call (h' := hh) (g' := g) (d' := d) (t' := t) (ch := []) un hok bare (fun b z => absurd z (by simp)), r, q⟩
end
/-! ### calls -/
/-- f(..): the written arguments, then the defaults dvs; E: what is wanted of an exception -/
def tCall (sp : Sp) (dvs : List V) (E : XK) (t : TA) : TE := fun σ H Q => t σ H fun vs H1 => sp (vs ++ dvs) H1 Q E
/-- how the parameters are bound: us the positional arguments, kw the keywords' values by name, ds the defaults that fill up -/
def Binds (K : PySem.W.Frag) (fd : FuncData) (ps : List Str) (ds : List Value) : Prop :=
  ∀ (s : Shared) (us : List Value), K.In s.heap → (us ++ ds).length = ps.length → BindsTo s fd ⟨us, []⟩ (ps.zip (us ++ ds))
/-- every parameter is given -/
theorem Binds.all {K : PySem.W.Frag} {fd : FuncData} {ps : List Str} (h : ∀ us : List Value, us.length = ps.length → bindArgs fd ⟨us, []⟩ = pure (ps.zip us)) : Binds K fd ps [] := fun s us _ hl => by
  rw [List.append_nil] at hl ⊢
  exact .of_eq (h us hl)
/-- an exception of a callee reaches what this body wants of exceptions -/
def Passes (CX : CXT) (X : Cx) (E : XK) : Prop := ∀ (pins : List (Addr × Obj)) (σ : St) (H : Hp) (s : Shared) (e : Value) (s' : Shared), Inv X pins σ H s → CX X.stack H s E e s' → X.xe e s'
section
variable {X : Cx} {CX : CXT} {k : Nat} {f C : Addr} {fd : FuncData} {ps : List Str} {sp : Sp} {dvs : List V} {ds : List Value} {E : XK} {x m : Str} {p pos apos : Pos} {e o : Expr} {es : List Expr} {ta : TE} {t : TA}
/-- the callee runs -/
theorem run_fn {pins : List (Addr × Obj)} {σ : St} {H : Hp} {s : Shared} {Q : VK} {us : List Value} {vs : List V} (F : FnOk X.prog X.w X.K X.mg X.base CX k f fd ps sp) (hr : Room k X.A) (hb : Binds X.K fd ps ds) (hd : Vals dvs ds) (hx : Passes CX X E)
    (I : Inv X pins σ H s) (r : Vals vs us) (h : sp (vs ++ dvs) H Q E) : wpAny (model X.prog X.w) X.A (call (.ref f) us) (EP X pins σ Q) X.xe s := by
  have r2 : Vals (vs ++ dvs) (us ++ ds) := r.append hd
  have hl : (us ++ ds).length = ps.length := by rw [← r2.length]; exact F.len _ _ _ _ h
  refine wpAny_call (codeAny_mono (F.run X.A X.stack s H ⟨us, []⟩ (us ++ ds) (vs ++ dvs) Q E hr I.env0 (hb s us I.kIn hl) r2 h) fun r s' hq => ?_)
  cases r with
  | error e => exact hx pins σ H s e s' I hq
  | ok fl =>
    cases fl with
    | ret u => exact I.after hq
    | next => exact False.elim hq
    | brk => exact False.elim hq
    | cont => exact False.elim hq
theorem pe_call (F : FnOk X.prog X.w X.K X.mg X.base CX k f fd ps sp) (hr : Room k X.A) (hg : Gl X x) (hm : X.mg x = some (.ref f)) (hk : PySem.W.keepIn X.K (.ref f) = true) (hb : Binds X.K fd ps ds) (hd : Vals dvs ds) (hx : Passes CX X E)
    (ha : PA X (e :: es) t) (hdb : (x == ("__debug__" : Str)) = false := by decide) (he : starEach (e :: es) X.env = (false, eval e X.env) :: starEach es X.env := by rfl) (hpl : (backTo pos (starEach es X.env)).any (·.1) = false := by rfl) :
    PE X (.Call (.Name x p) (e :: es) [] pos) (tCall sp dvs E t) := by
  intro pins s σ H Q I h
  refine wpAny_Call_Name_kw (ld_glob I hg hm ?_ hdb)
  refine PySem.W.callWith_K (h₀ := X.base) I.ok.mod.kin hk (thn (ha pos pins s σ H _ I h) fun us s1 ⟨vs, H1, I1, r, q⟩ => ⟨I1.kIn, ?_⟩) he hpl
  exact run_fn F hr hb hd hx I1 r q
/-- what a class must have to be made -/
structure Mk (K : PySem.W.Frag) (C f : Addr) : Prop where
  makes : PySem.W.makesIn K C = true
  init : PySem.W.findIn K (.ref C) "__init__" = some (some (.ref f))
  fn : PySem.W.isFn K (.ref f) = true
  kp : PySem.W.keepIn K (.ref C) = true
theorem run_make {pins : List (Addr × Obj)} {σ : St} {H : Hp} {s : Shared} {Q : VK} {us : List Value} {vs : List V} (M : Mk X.K C f) (F : FnOk X.prog X.w X.K X.mg X.base CX k f fd ps sp) (hr : Room (k + 1) X.A) (hb : Binds X.K fd ps ds) (hd : Vals dvs ds)
    (hx : Passes CX X E) (I : Inv X pins σ H s) (r : Vals vs us)
    (h : ∀ x dx, H x = none → H dx = none → dx ≠ x → sp (.ref x :: (vs ++ dvs)) (upd (upd H dx (.own x)) x (.ins C dx [])) (fun v H2 => v = .non ∧ Q (.ref x) H2) E) :
    wpAny (model X.prog X.w) X.A (call (.ref C) us) (EP X pins σ Q) X.xe s := by
  have hq := h (s.heap.objs.size + 1) s.heap.objs.size (I.hok.fresh (Nat.le_succ _)) (I.hok.fresh (Nat.le_refl _)) (Nat.ne_of_lt (Nat.lt_succ_self _))
  have I2 := Inv.made (C := C) I
  have r2 : Vals (V.ref (s.heap.objs.size + 1) :: (vs ++ dvs)) (Value.ref (s.heap.objs.size + 1) :: (us ++ ds)) := .cons rfl (r.append hd)
  have hl : (Value.ref (s.heap.objs.size + 1) :: us ++ ds).length = ps.length := by
    have e := r2.length
    rw [F.len _ _ _ _ hq] at e
    exact e.symm
  refine wpAny_call (make_map (f := f) I.kIn M.makes M.init (beq_iff_eq.mp M.fn) (codeAny_mono (F.run _ X.stack _ _ ⟨Value.ref (s.heap.objs.size + 1) :: us, []⟩ (Value.ref (s.heap.objs.size + 1) :: (us ++ ds)) _ _ E (hr.make C us [])
    (I2.env0.make C us []) (hb _ (Value.ref (s.heap.objs.size + 1) :: us) I2.kIn hl) r2 hq) fun r s' hq' => ?_))
  cases r with
  | error e => exact hx pins σ _ _ e s' I2 hq'
  | ok fl =>
    cases fl with
    | ret u =>
      obtain ⟨v, H', I3, rv, ev, q3⟩ := I2.after hq'
      subst ev
      exact ⟨rv, ⟨V.ref (s.heap.objs.size + 1), H', I3, rfl, q3⟩⟩
    | next => exact False.elim hq'
    | brk => exact False.elim hq'
    | cont => exact False.elim hq'
end
section
variable {X : Cx} {CX : CXT} {k : Nat} {f C : Addr} {fd : FuncData} {ps ks : List Str} {sp : Sp} {E : XK} {x m : Str} {p pos apos kpos : Pos} {e o : Expr} {es : List Expr} {kws : List Keyword} {te ta : TE} {t tk : TA} {nm : Option Str}
variable {g : List Value → List Value → List Value} {gV : List V → List V → List V}
end
/-! ### a def's body keeps its promise -/
/-- names: the parameters first -/
structure FnScope (N P : List Str) (sc : Scope) : Prop where
  kind : sc.kind = .function
  co : sc.isCoroutine = false
  gen : sc.isGenerator = false
  nd : N.Nodup
  pre : N.take P.length = P
  par : ∀ x ∈ P, sc.names.lookup x = some .local ∨ sc.names.lookup x = some .cell
  nofree : ∀ y ∈ sc.names, y.2 ≠ .free
theorem bindL_out {kindOf : Str → Option NameKind} {x : Str} : ∀ {binds : List (Str × Value)} {m : Str → Option Value}, (∀ v, (x, v) ∉ binds) → bindL kindOf binds m x = m x
  | [], _, _ => rfl
  | (n, v) :: r, m, h => by
    unfold bindL
    rw [bindL_out fun w hw => h w (List.mem_cons_of_mem _ hw)]
    split
    · have : x ≠ n := by rintro rfl; exact h v List.mem_cons_self
      simp [this]
    · rfl
theorem bindC_out {kindOf : Str → Option NameKind} {x : Str} : ∀ {binds : List (Str × Value)} {m : Str → Option Value}, (∀ v, (x, v) ∉ binds) → bindC kindOf binds m x = m x
  | [], _, _ => rfl
  | (n, v) :: r, m, h => by
    unfold bindC
    rw [bindC_out fun w hw => h w (List.mem_cons_of_mem _ hw)]
    split
    · rfl
    · have : x ≠ n := by rintro rfl; exact h v List.mem_cons_self
      simp [this]
theorem bindL_get {kindOf : Str → Option NameKind} {x : Str} {v : Value} : ∀ {P : List Str} {vs : List Value} {i : Nat} {m : Str → Option Value}, P.Nodup → P[i]? = some x → vs[i]? = some v → kindOf x = some .local →
    bindL kindOf (P.zip vs) m x = some v
  | [], _, _, _, _, h, _, _ => by simp at h
  | _ :: _, [], _, _, _, _, h, _ => by simp at h
  | p :: P, w :: vs, 0, m, nd, h1, h2, hk => by
    simp at h1 h2; subst h1; subst h2
    show bindL kindOf ((p, w) :: P.zip vs) m p = _
    unfold bindL
    rw [bindL_out fun v hv => (List.nodup_cons.mp nd).1 (List.of_mem_zip hv).1, if_pos hk]
    simp
  | p :: P, w :: vs, i + 1, m, nd, h1, h2, hk => by
    show bindL kindOf ((p, w) :: P.zip vs) m x = _
    unfold bindL
    exact bindL_get (i := i) (List.nodup_cons.mp nd).2 (by simpa using h1) (by simpa using h2) hk
theorem bindC_get {kindOf : Str → Option NameKind} {x : Str} {v : Value} : ∀ {P : List Str} {vs : List Value} {i : Nat} {m : Str → Option Value}, P.Nodup → P[i]? = some x → vs[i]? = some v → kindOf x ≠ some .local →
    bindC kindOf (P.zip vs) m x = some v
  | [], _, _, _, _, h, _, _ => by simp at h
  | _ :: _, [], _, _, _, _, h, _ => by simp at h
  | p :: P, w :: vs, 0, m, nd, h1, h2, hk => by
    simp at h1 h2; subst h1; subst h2
    show bindC kindOf ((p, w) :: P.zip vs) m p = _
    unfold bindC
    rw [bindC_out fun v hv => (List.nodup_cons.mp nd).1 (List.of_mem_zip hv).1, if_neg hk]
    simp
  | p :: P, w :: vs, i + 1, m, nd, h1, h2, hk => by
    show bindC kindOf ((p, w) :: P.zip vs) m x = _
    unfold bindC
    exact bindC_get (i := i) (List.nodup_cons.mp nd).2 (by simpa using h1) (by simpa using h2) hk
/-- the names' values at the entry -/
def start (N : List Str) (vs : List V) : St := vs.map some ++ List.replicate (N.length - vs.length) none
/-- the context of a def's body, at its entry; an exception leaves the frame, then lies as CX says -/
def cxOf (CX : CXT) (P : Program) (w : World) (K : PySem.W.Frag) (mg : Str → Option Value) (base : Heap) (N : List Str) (qual : Str) (scope : Scope) (f : Addr) (cd : Value) (A : Around) (outer : List Env) (s : Shared) (H : Hp) (E : XK) : Cx where
  prog := P
  w := w
  K := K
  mg := mg
  base := base
  A := A.deeper (envOfC qual scope s.heap.objs.size f cd)
  N := N
  s₀ := s
  H₀ := H
  env := envOfC qual scope s.heap.objs.size f cd
  outer := outer
  stack := envOfC qual scope s.heap.objs.size f cd :: outer
  ex := []
  calm := true
  fn := fun _ => true
  pn := []
  xe := fun e s' => wpAny (model P w) (A.deeper (envOfC qual scope s.heap.objs.size f cd)) (leaving (envOfC qual scope s.heap.objs.size f cd) e) (fun _ s'' => CX outer H s E e s'') (fun e' s'' => CX outer H s E e' s'') s'
theorem cell_has {sc : Scope} {n : Nat} {x : Str} (h : sc.names.lookup x = some .cell) : ∃ c, (cellsFrom n sc.names []).lookup x = some c := by
  have q := PySem.W.cellsFrom_some sc.names n [] (.inl h)
  exact Option.isSome_iff_exists.mp q
theorem inv_start {CX : CXT} {P : Program} {w : World} {K : PySem.W.Frag} {mg : Str → Option Value} {base : Heap} {N ps : List Str} {qual : Str} {scope : Scope} {f : Addr} {cd : Value} {A : Around} {outer : List Env} {s s1 : Shared} {H : Hp} {E : XK} {us : List Value} {vs : List V}
    (S : FnScope N ps scope) (hd : A.handled = none) (e0 : Env0 P w K mg base A outer s H) (hl : vs.length = ps.length) (r : Vals vs us)
    (x : InCallC s s.heap.objs.size (bindL (envOfC qual scope s.heap.objs.size f cd).kindOf (ps.zip us) fun _ => none) (cellsFrom (s.heap.objs.size + 1) scope.names []) (bindC (envOfC qual scope s.heap.objs.size f cd).kindOf (ps.zip us) fun _ => none) s1) :
    Inv (cxOf CX P w K mg base N qual scope f cd A outer s H E) [] (start N vs) H s1 := by
  have hpl : ps.length ≤ N.length := by have := congrArg List.length S.pre; rw [List.length_take] at this; omega
  obtain ⟨h1, tk, rfl, hk⟩ := x.done
  have noA : ∀ b : Addr, b ∉ (cxOf CX P w K mg base N qual scope f cd A outer s H E).ex := fun b z => absurd (show b ∈ ([] : List Addr) from z) (by simp)
  refine ⟨⟨e0.mod, S.kind, rfl, rfl, Nat.le_refl _, fun y z c h1 h2 => ?_, fun y hy => ?_, fun y c _ h => ?_, fun _ => hd, Around.frames_deeper e0.frames, .inr ⟨rfl, rfl⟩, fun b z => absurd z (noA b), e0.bs, e0.bsz, fun b _ _ => noA b, fun b z => absurd z (noA b), e0.funs, e0.frf⟩,
    rfl, e0.bare, Un.kept hk, ⟨_, x.toInCall.ns, fun i y v h1 h2 h3 => ?_⟩, fun y c h => ⟨_, x.cell y c h⟩, e0.hok.fresh (Nat.le_refl _), fun y c h => ?_, fun p hp => absurd (show p ∈ ([] : List (Addr × Obj)) from hp) (by simp), e0.hok.kept hk, ?_⟩
  · exact name_of_addr x.apart (PySem.mem_of_lookup h1) (PySem.mem_of_lookup h2)
  · have hy : scope.names.lookup y = some .cell ∨ scope.names.lookup y = some .free := hy
    rcases hy with hy | hy
    · exact cell_has hy
    · exact absurd rfl (S.nofree _ (PySem.mem_of_lookup hy))
  · exact Nat.le_of_lt (x.above y c (PySem.mem_of_lookup h))
  · have hi : i < vs.length := by
      unfold start at h2
      by_cases hi : i < vs.length
      · exact hi
      · rw [List.getElem?_append_right (by simpa using hi)] at h2
        rw [List.getElem?_replicate] at h2
        split at h2 <;> cases h2
    have ha : vs[i]? = some v := by
      unfold start at h2
      rw [List.getElem?_append_left (by simpa using hi), List.getElem?_map] at h2
      cases e : vs[i]? with
      | none => rw [e] at h2; cases h2
      | some a => rw [e] at h2; cases h2; rfl
    obtain ⟨u, hu, rv⟩ := r.get ha
    have hp : ps[i]? = some y := by
      rw [← S.pre, List.getElem?_take_of_lt (by omega)]; exact h1
    have ndP : ps.Nodup := by rw [← S.pre]; exact S.nd.sublist (List.take_sublist _ _)
    refine ⟨u, rv, ?_⟩
    rcases S.par y (List.mem_of_getElem? hp) with k | k
    · exact .inl ⟨k, bindL_get ndP hp hu k⟩
    · obtain ⟨c, e⟩ := cell_has (n := s.heap.objs.size + 1) k
      refine .inr ⟨.inl k, c, e, ?_⟩
      have q := x.cell y c e
      rw [bindC_get ndP hp hu (by show scope.names.lookup y ≠ _; rw [k]; decide)] at q
      exact q
  · exact e0.hok.fresh (Nat.le_of_lt (x.above y c (PySem.mem_of_lookup h)))
  · unfold start
    show _ = N.length
    rw [List.length_append, List.length_map, List.length_replicate]
    omega
/-- THE RULE: a def (or a method) of the text, by its body. The body's reading t is chosen for each entry; it is run at the parameters' values -/
theorem fn_of {CX : CXT} {P : Program} {w : World} {K : PySem.W.Frag} {mg : Str → Option Value} {base : Heap} {k : Nat} {f : Addr} {name qual : Str} {params : Arguments} {body : List Stmt} {scope : Scope} {dV kV doc pm cdv ct oc : Value} {an od : Option Addr}
    {osl : Array (Option Value)} {N ps : List Str} {sp : Sp} (lk : K.lookup f = some ⟨oc, od, .func (PySem.W.fnOf name qual params body scope dV kV doc pm an cdv ct), osl⟩) (hcd : PySem.W.codeIn K cdv qual = true) (S : FnScope N ps scope)
    (len : ∀ vs H Q E, sp vs H Q E → vs.length = ps.length)
    (hbody : ∀ (A : Around) (outer : List Env) (s : Shared) (H : Hp) (vs : List V) (Q : VK) (E : XK), Room k (A.deeper (envOfC qual scope s.heap.objs.size f cdv)) → sp vs H Q E →
      ∃ t, PSs (cxOf CX P w K mg base N qual scope f cdv A outer s H E) body t ∧ t { nx := fun _ H' => Q .non H', rt := Q } (start N vs) H) :
    FnOk P w K mg base CX (k + 1) f (PySem.W.fnOf name qual params body scope dV kV doc pm an cdv ct) ps sp := by
  refine ⟨len, fun A outer s H args us vs Q E hr e0 hb r hsp => ?_⟩
  have hl := len _ _ _ _ hsp
  have KX : K.In s.heap := e0.mod.kin.keeps fun b o e => (e0.bs b o e).1
  have lim : s.heap.NoLimit := e0.mod.nolimit.keeps fun b o e => (e0.bs b o e).1
  have hkind : ∀ y ∈ ps.zip us, scope.names.lookup y.1 = some .local ∨ (scope.names.lookup y.1 = some .cell ∧ ((cellsFrom (s.heap.objs.size + 1) scope.names []).lookup y.1).isSome = true) := fun ⟨n, v⟩ hy => by
    rcases S.par n (List.of_mem_zip hy).1 with q | q
    · exact .inl q
    · exact .inr ⟨q, PySem.W.cellsFrom_some _ _ _ (.inl q)⟩
  refine codeAny_call_function hr.depth (KX _ _ lk) rfl S.co S.gen rfl (PySem.W.codeRec_of KX hcd) (hb _ _ _ _ ?_)
  refine wpAny_newFunctionEnv_cells S.kind hkind fun env he s1 x => ?_
  subst he
  refine ⟨lim.keeps x.toInCall.keep, codeAny_func ?_⟩
  obtain ⟨t, ht, hq⟩ := hbody A outer s H vs Q E (hr.deeper _) hsp
  have I : Inv (cxOf CX P w K mg base N qual scope f cdv A outer s H E) [] (start N vs) H s1 := inv_start S hr.hd e0 hl r x
  refine wpAny_mono (ht [] s1 (start N vs) H _ I hq) (fun fl s' hs => ?_) fun e s' hs => hs
  have fin : ∀ {σ' : St} {H' : Hp} {v : V} {u : Value}, Inv (cxOf CX P w K mg base N qual scope f cdv A outer s H E) [] σ' H' s' → RelV v u → Q v H' → CE outer P w H s Q u s' :=
    fun {σ' H' v u} J rv q => ⟨v, H', J.os, J.bare, J.base, J.hok, rv, q⟩
  cases fl with
  | ret u =>
    obtain ⟨v, σ', H', J, rv, q⟩ := hs
    exact fin J rv q
  | next =>
    obtain ⟨σ', H', J, q⟩ := hs
    exact fin (v := V.non) (u := Value.none) J rfl q
  | brk =>
    obtain ⟨_, _, _, q⟩ := hs
    exact False.elim q
  | cont =>
    obtain ⟨_, _, _, q⟩ := hs
    exact False.elim q
end L2
namespace L2
open PySem PySem.Spec PyProof.Rows
section
variable {X : Cx} {x : Str} {p pos : Pos} {e : Expr} {es : List Expr} {t : TA} {id T : String} {r : List V → Hp → VK → Prop}
def tCB (r : List V → Hp → VK → Prop) (t : TA) : TE := fun σ H Q => t σ H fun vs H1 => r vs H1 Q
/-- f(e, ..), f a built-in function -/
theorem pe_callB (hc : CallR X (.builtin id) r) (hg : Gl X x) (hm : X.mg x = none) (hv : bootBuiltins x = some (.builtin id)) (ha : PA X (e :: es) t) (hn : x ≠ "__name__" := by decide) (hdb : (x == ("__debug__" : Str)) = false := by decide)
    (he : starEach (e :: es) X.env = (false, eval e X.env) :: starEach es X.env := by rfl) (hpl : (backTo pos (starEach es X.env)).any (·.1) = false := by rfl) : PE X (.Call (.Name x p) (e :: es) [] pos) (tCB r t) := by
  intro pins s σ H Q I h
  refine wpAny_Call_Name_kw (ld_blt I hg hm hv ?_ hn hdb)
  exact PyProof.Rows.callWith_builtin1 (thn (ha pos pins s σ H _ I h) fun us s1 ⟨vs, H1, I1, r1, q1⟩ => hc pins s1 σ H1 vs us Q I1 r1 q1) he hpl
end
end L2
namespace HT
open PySem PyProof.Rows
section
open PySem.SeqAt
open PySem.AutoSeq1 (wpAny_loadPart')
open PySem.MeetsSeq PySem.MeetsSeq2 PySem.MeetsSeq3
end
section
variable {prog : Program} {w : World} {A : Around} {E : Value → Shared → Prop} {s : Shared}
/-! ### t[a:b], not the whole -/
/-- a slice's bound as a place among n (d where it is left out) -/
def sIx (n d : Nat) : Option Int → Nat
  | none => d
  | some v => if v < 0 then (v + (n : Int)).toNat else min v.toNat n
end
end HT
namespace L2
open PySem PySem.Spec PyProof.Rows
/-! ### the parts of a slice -/
abbrev TO := St → Hp → (Option Int → Hp → Prop) → Prop
def tPart (t : TE) : TO := fun σ H Q => t σ H fun x H1 => ∃ i, x = .int i ∧ Q (some i) H1
section
variable {X : Cx} {e : Expr} {te : TE} {lo hi : Option Expr} {tl th : TO} {pos p2 : Pos}
/-- the items of xs[lo:hi] -/
def cutV (xs : List V) (lo hi : Option Int) : List V := (xs.drop (HT.sIx xs.length 0 lo)).take (HT.sIx xs.length xs.length hi - HT.sIx xs.length 0 lo)
end
end L2
namespace L2
open PySem PySem.Spec PyProof.Rows
/-! ### places -/
/-- the place that an index of any sign means -/
def ixN (n : Nat) (i : Int) : Option Nat := if 0 ≤ i then (if i < n then some i.toNat else none) else if -(n : Int) ≤ i then some (i + n).toNat else none
def atI {α : Type} (xs : List α) (i : Int) : Option α := (ixN xs.length i).bind fun j => xs[j]?
theorem ixN_seq {n : Nat} {i : Int} {j : Nat} (h : ixN n i = some j) : seqIndex? i n = some j ∧ j < n ∧ -(n : Int) ≤ i ∧ i < n := by
  unfold ixN at h
  by_cases h0 : 0 ≤ i
  · rw [if_pos h0] at h
    by_cases h1 : i < n
    · rw [if_pos h1] at h
      have e : i.toNat = j := Option.some.inj h
      exact ⟨by rw [seqIndex_of h0 h1, e], by omega, by omega, h1⟩
    · rw [if_neg h1] at h; cases h
  · rw [if_neg h0] at h
    by_cases h1 : -(n : Int) ≤ i
    · rw [if_pos h1] at h
      have e : (i + n).toNat = j := Option.some.inj h
      exact ⟨by rw [seqIndex_neg (by omega) h1, e], by omega, h1, by omega⟩
    · rw [if_neg h1] at h; cases h
theorem atI_get {α : Type} {xs : List α} {i : Int} {v : α} (h : atI xs i = some v) : ∃ j, seqIndex? i xs.length = some j ∧ xs[j]? = some v ∧ j < xs.length ∧ -(xs.length : Int) ≤ i ∧ i < xs.length := by
  unfold atI at h
  cases e : ixN xs.length i with
  | none => rw [e] at h; cases h
  | some j =>
    rw [e] at h
    obtain ⟨h1, h2, h3, h4⟩ := ixN_seq e
    exact ⟨j, h1, h, h2, h3, h4⟩
theorem atI_nat {α : Type} {xs : List α} {j : Nat} {v : α} (h : xs[j]? = some v) : atI xs (j : Int) = some v := by
  have hj : j < xs.length := (List.getElem?_eq_some_iff.mp h).1
  have e : ixN xs.length (j : Int) = some j := by
    unfold ixN
    rw [if_pos (by omega), if_pos (by omega)]; simp
  unfold atI; rw [e]; exact h
/-! ### what may be subscripted -/
/-- what stands as an index of a plain subscript -/
def PlainIx (b : Expr) : Prop := ∀ o i, subscripted b false o i = operate [o, i] (getItem o i)
/-- a subscript by values -/
def IxR (X : Cx) (r : R2) : Prop :=
  ∀ (value slice : Expr) (pins : List (Addr × Obj)) (s : Shared) (σ : St) (H : Hp) (x y : V) (v u : Value) (Q : VK), Inv X pins σ H s → RelV x v → RelV y u → r x y H Q →
    subscripted slice false v u = operate [v, u] (getItem v u) → wpAny (model X.prog X.w) X.A (subscriptTail value slice v u) (EP X pins σ Q) X.xe s
/-- a call of a builtin's method by values: the receiver, the arguments -/
def MtR (X : Cx) (id : String) (r : V → List V → Hp → VK → Prop) : Prop :=
  ∀ (pins : List (Addr × Obj)) (s : Shared) (σ : St) (H : Hp) (x : V) (xs : List V) (v : Value) (us : List Value) (Q : VK), Inv X pins σ H s → RelV x v → Vals xs us → r x xs H Q →
    wpAny (model X.prog X.w) X.A (call (.builtin id) (v :: us)) (EP X pins σ Q) X.xe s
section
variable {X : Cx} {a b : Expr} {ta tb : TE} {pos : Pos}
theorem IxR.or {r r' : R2} (h : IxR X r) (h' : IxR X r') : IxR X (fun x y H Q => r x y H Q ∨ r' x y H Q) := by
  intro value slice pins s σ H x y v u Q I rx ry q hs
  rcases q with q | q
  · exact h value slice pins s σ H x y v u Q I rx ry q hs
  · exact h' value slice pins s σ H x y v u Q I rx ry q hs
theorem MtR.or {id : String} {r r' : V → List V → Hp → VK → Prop} (h : MtR X id r) (h' : MtR X id r') : MtR X id (fun x xs H Q => r x xs H Q ∨ r' x xs H Q) := by
  intro pins s σ H x xs v us Q I rx rs q
  rcases q with q | q
  · exact h pins s σ H x xs v us Q I rx rs q
  · exact h' pins s σ H x xs v us Q I rx rs q
/-- a[b] -/
theorem pe_ix {r : R2} (hr : IxR X r) (ha : PE X a ta) (hb : PE X b tb) (hs : PlainIx b) : PE X (.Subscript a b pos) (tOp r ta tb) := by
  intro pins s σ H Q I h
  exact Subscript_ (binT ha hb I h fun v u s2 x y H2 I2 rx ry q => hr a b pins s2 σ H2 x y v u Q I2 rx ry q (hs _ _))
def rIxL (K : PySem.W.Frag) : R2 := fun x y H Q => ∃ p xs i v, x = .ref p ∧ y = .int i ∧ SqL K H p xs ∧ atI xs i = some v ∧ Q v H
def rIxT (K : PySem.W.Frag) : R2 := fun x y H Q => ∃ p xs i v, x = .ref p ∧ y = .int i ∧ SqT K H p xs ∧ atI xs i = some v ∧ Q v H
theorem ix_list : IxR X (rIxL X.K) := by
  intro value slice pins s σ H x y v u Q I rx ry h hs
  obtain ⟨p, xs, i, z, rfl, rfl, hq, he, q⟩ := h
  cases rx
  obtain ⟨t, rfl⟩ := ry
  obtain ⟨its, r, pl, hz⟩ := I.list hq
  obtain ⟨j, h1, h2, h3, h4, h5⟩ := atI_get he
  obtain ⟨w, ew, rw'⟩ := r.get h2
  have hl := r.length
  have hn := line63
  have fin : EP X pins σ Q w s := ⟨z, H, I, rw', q⟩
  by_cases h0 : 0 ≤ i
  · have hj : i.toNat = j := by
      rw [seqIndex_of h0 h5] at h1
      exact Option.some.inj h1
    exact item_listR pl.isList h0 (by omega) (by rw [hj]; simpa using ew) fin hs
  · have hj : (i + (its.toArray.size : Int)).toNat = j := by
      rw [seqIndex_neg (by omega) h4] at h1
      rw [List.size_toArray, ← hl]
      exact Option.some.inj h1
    exact subscriptTail_builtinR (x := w) pl.isList.typeIs slot_list_getitem.lookup
      (wpAny_getItem_list_neg (Q := fun r s' => r = w ∧ EP X pins σ Q r s') pl.isList (by omega) (by rw [List.size_toArray] <;> omega) (by omega) (by rw [hj]; simpa using ew) ⟨rfl, fin⟩) hs
theorem ix_tup : IxR X (rIxT X.K) := by
  intro value slice pins s σ H x y v u Q I rx ry h hs
  obtain ⟨p, xs, i, z, rfl, rfl, hq, he, q⟩ := h
  cases rx
  obtain ⟨t, rfl⟩ := ry
  obtain ⟨its, r, pl, hz⟩ := I.tuple hq
  obtain ⟨j, h1, h2, h3, h4, h5⟩ := atI_get he
  obtain ⟨w, ew, rw'⟩ := r.get h2
  have hl := r.length
  have hn := line63
  have fin : EP X pins σ Q w s := ⟨z, H, I, rw', q⟩
  exact subscriptTail_builtinR (x := w) pl.typeIs slot_tuple_getitem.lookup
    (getItem_tuple (j := j) (Q := fun r s' => r = w ∧ EP X pins σ Q r s') pl (by omega) (by omega) (by rw [List.size_toArray, ← hl]; exact h1) (by simpa using ew) ⟨rfl, fin⟩) hs
theorem Inv.lst {pins : List (Addr × Obj)} {σ : St} {H : Hp} {s : Shared} {p : Addr} {xs : List V} (I : Inv X pins σ H s) (h : H p = some (.lst xs)) :
    ∃ (its : List Value) (n : Nat), Vals xs its ∧ s.heap.get? p = some { cls := .type "list", data := .seq its.toArray n } ∧ xs.length ≤ sizeLine := by
  obtain ⟨z, its, n, r, e⟩ := I.hok p _ h
  exact ⟨its, n, r, e, z⟩
def rSetL : V → V → V → Hp → (Hp → Prop) → Prop := fun o i v H Q => ∃ p xs k j, o = .ref p ∧ i = .int k ∧ H p = some (.lst xs) ∧ ixN xs.length k = some j ∧ Q (upd H p (.lst (xs.set j v)))
/-! ### in, not in: flat items -/
def flatV : V → Bool
  | .non => true
  | .bl _ => true
  | .int _ => true
  | .str _ => true
  | _ => false
/-- == of flat values -/
def eqV : V → V → Bool
  | .non, .non => true
  | .bl a, .bl b => a == b
  | .bl a, .int b => (if a then 1 else 0) == b
  | .int a, .bl b => a == (if b then 1 else 0)
  | .int a, .int b => a == b
  | .str a, .str b => a == b
  | _, _ => false
theorem eqAt_V {A : Around} {s : Shared} {y x : V} {u v : Value} (ry : RelV y u) (rx : RelV x v) (fy : flatV y = true) (fx : flatV x = true) : SeqAt.EqAt A s u v (eqV y x) := by
  cases y with
  | non =>
    cases ry
    cases x with
    | non => cases rx; exact SeqAt.EqAt.same _
    | bl b => cases rx; exact SeqAt.EqAt.none_bool b
    | int b => obtain ⟨t, rfl⟩ := rx; exact SeqAt.EqAt.none_int b t
    | str b => obtain ⟨t, rfl⟩ := rx; exact SeqAt.EqAt.none_str b t
    | _ => exact absurd (show false = true from fx) Bool.false_ne_true
  | bl a =>
    cases ry
    cases x with
    | non => cases rx; exact SeqAt.EqAt.bool_none a
    | bl b => cases rx; exact SeqAt.EqAt.bool_bool a b
    | int b => obtain ⟨t, rfl⟩ := rx; exact SeqAt.EqAt.bool_int a b t
    | str b => obtain ⟨t, rfl⟩ := rx; exact SeqAt.EqAt.bool_str a b t
    | _ => exact absurd (show false = true from fx) Bool.false_ne_true
  | int a =>
    obtain ⟨t', rfl⟩ := ry
    cases x with
    | non => cases rx; exact SeqAt.EqAt.int_none a t'
    | bl b => cases rx; exact SeqAt.EqAt.int_bool a t' b
    | int b => obtain ⟨t, rfl⟩ := rx; exact SeqAt.EqAt.int_int a t' b t
    | str b => obtain ⟨t, rfl⟩ := rx; exact SeqAt.EqAt.int_str a t' b t
    | _ => exact absurd (show false = true from fx) Bool.false_ne_true
  | str a =>
    obtain ⟨t', rfl⟩ := ry
    cases x with
    | non => cases rx; exact SeqAt.EqAt.str_none a t'
    | bl b => cases rx; exact SeqAt.EqAt.str_bool a t' b
    | int b => obtain ⟨t, rfl⟩ := rx; exact SeqAt.EqAt.str_int a t' b t
    | str b => obtain ⟨t, rfl⟩ := rx; exact SeqAt.EqAt.str_str a t' b t
    | _ => exact absurd (show false = true from fx) Bool.false_ne_true
  | _ => exact absurd (show false = true from fy) Bool.false_ne_true
/-- the items' answers, read off the values (a value's own answer does not lean on its token) -/
def eqU (x : V) (u : Value) : Bool := match u with
  | .none => eqV .non x
  | .bool b => eqV (.bl b) x
  | .int i _ => eqV (.int i) x
  | .str z _ => eqV (.str z) x
  | _ => false
theorem eqU_of {x y : V} {u : Value} (r : RelV y u) (f : flatV y = true) : eqU x u = eqV y x := by
  cases y with
  | non => cases r; rfl
  | bl b => cases r; rfl
  | int i => obtain ⟨t, rfl⟩ := r; rfl
  | str z => obtain ⟨t, rfl⟩ := r; rfl
  | _ => exact absurd (show false = true from f) Bool.false_ne_true
theorem any_eqU {x : V} : ∀ {xs : List V} {us : List Value}, Vals xs us → xs.all flatV = true → us.any (eqU x) = xs.any fun y => eqV y x
  | _, _, .nil, _ => rfl
  | y :: xs, u :: us, .cons r t, f => by
    rw [List.all_cons, Bool.and_eq_true] at f
    rw [List.any_cons, List.any_cons, eqU_of r f.1, any_eqU t f.2]
theorem mem_eqAt {A : Around} {s : Shared} {x : V} {v : Value} (rx : RelV x v) (fx : flatV x = true) : ∀ {xs : List V} {us : List Value}, Vals xs us → xs.all flatV = true → ∀ u ∈ us, SeqAt.EqAt A s u v (eqU x u)
  | _, _, .nil, _ => fun u hu => by cases hu
  | y :: xs, u :: us, .cons r t, f => fun u' hu => by
    rw [List.all_cons, Bool.and_eq_true] at f
    rcases List.mem_cons.mp hu with rfl | hu
    · rw [eqU_of r f.1]; exact eqAt_V r rx f.1 fx
    · exact mem_eqAt rx fx t f.2 u' hu
def inV (x : V) (xs : List V) : Bool := xs.any fun y => eqV y x
/-- x in a list or tuple of flat items -/
def rIn (K : PySem.W.Frag) (neg : Bool) : R2 := fun x y H Q => ∃ p xs, y = .ref p ∧ (SqL K H p xs ∨ SqT K H p xs) ∧ flatV x = true ∧ xs.all flatV = true ∧ Q (.bl (if neg then !inV x xs else inV x xs)) H
theorem op_in_seq : OpR X (compareOp .In) (rIn X.K false) := by
  intro pins s σ H x y v u Q I rx ry h
  obtain ⟨p, xs, rfl, hq, fx, fs, q⟩ := h
  cases ry
  rcases hq with hq | hq
  · obtain ⟨its, r, pl, hz⟩ := I.list hq
    refine SeqAt.in_listAt (eqU x) pl.isList (fun w hw => mem_eqAt rx fx r fs w (by simpa using hw)) ⟨.bl _, H, I, rfl, ?_⟩
    rw [show its.toArray.any (eqU x) = its.any (eqU x) by simp, any_eqU r fs]
    exact q
  · obtain ⟨its, r, pl, hz⟩ := I.tuple hq
    refine SeqAt.in_tupleAt (eqU x) pl (fun w hw => mem_eqAt rx fx r fs w (by simpa using hw)) ⟨.bl _, H, I, rfl, ?_⟩
    rw [show its.toArray.any (eqU x) = its.any (eqU x) by simp, any_eqU r fs]
    exact q
/-! ### len, list(x), tuple(x) of any list or tuple that is read -/
theorem call_len_seq : CallR X (.builtin "len") (fun xs H Q => ∃ p ys, xs = [.ref p] ∧ (SqL X.K H p ys ∨ SqT X.K H p ys) ∧ Q (.int ys.length) H) := by
  intro pins s σ H xs us Q I r h
  obtain ⟨p, ys, rfl, hq, q⟩ := h
  obtain ⟨u, rfl, rx⟩ := vals1 r
  cases rx
  have hn := line63
  rcases hq with hq | hq
  · obtain ⟨its, r', pl, hz⟩ := I.list hq
    have hlen := r'.length
    exact Calls.call_len_list pl.isList (by simp only [List.size_toArray] <;> omega) ⟨.int ys.length, H, I.tok _, ⟨s.toks + 1, by rw [List.size_toArray, hlen]⟩, q⟩
  · obtain ⟨its, r', pl, hz⟩ := I.tuple hq
    have hlen := r'.length
    exact len_tuple pl (by simp only [List.size_toArray] <;> omega) ⟨.int ys.length, H, I.tok _, ⟨s.toks + 1, by rw [List.size_toArray, hlen]⟩, q⟩
theorem call_len_str : CallR X (.builtin "len") (fun xs H Q => ∃ z, xs = [.str z] ∧ z.length ≤ sizeLine ∧ Q (.int z.length) H) := by
  intro pins s σ H xs us Q I r h
  obtain ⟨z, rfl, hz, q⟩ := h
  obtain ⟨u, rfl, t, rfl⟩ := vals1 r
  have hn := line63
  exact len_str (by omega) ⟨.int z.length, H, I.tok _, ⟨_, rfl⟩, q⟩
theorem CallR.or {f : Value} {r r' : List V → Hp → VK → Prop} (h : CallR X f r) (h' : CallR X f r') : CallR X f (fun xs H Q => r xs H Q ∨ r' xs H Q) := by
  intro pins s σ H xs us Q I rs q
  rcases q with q | q
  · exact h pins s σ H xs us Q I rs q
  · exact h' pins s σ H xs us Q I rs q
/-! ### the call of a builtin's method: o.m(..) -/
/-- the value is of that builtin type -/
def tyV (K : PySem.W.Frag) (T : String) (x : V) (H : Hp) : Prop := match x with
  | .str _ => T = "str"
  | .int _ => T = "int"
  | .ref p => (T = "list" ∧ ∃ xs, SqL K H p xs) ∨ (T = "tuple" ∧ ∃ o, K.lookup p = some o ∧ o.cls = .type "tuple" ∧ o.dict = none) ∨
      (T = "dict" ∧ ((∃ kvs, H p = some (.dK kvs)) ∨ ∃ kvs, H p = some (.dT kvs))) ∨ (T = "set" ∧ ∃ S n, H p = some (.set S n))
  | _ => False
theorem tyV_is {pins : List (Addr × Obj)} {σ : St} {H : Hp} {s : Shared} {T : String} {x : V} {v : Value} (I : Inv X pins σ H s) (r : RelV x v) (ty : tyV X.K T x H) :
    s.TypeIs v T ∧ ∀ a, v = .ref a → ∃ ob, s.heap.get? a = some ob ∧ ob.dict = none := by
  cases x with
  | str z =>
    obtain ⟨t, rfl⟩ := r
    cases (show T = "str" from ty)
    exact ⟨typeIs_str s z t, fun _ e => nomatch e⟩
  | int i =>
    obtain ⟨t, rfl⟩ := r
    cases (show T = "int" from ty)
    exact ⟨typeIs_int s i t, fun _ e => nomatch e⟩
  | ref p =>
    cases r
    rcases ty with ⟨rfl, xs, hq⟩ | ⟨rfl, o, hk, hc, hd⟩ | ⟨rfl, hk⟩ | ⟨rfl, S, n, hk⟩
    · obtain ⟨its, _, pl, _⟩ := I.list hq
      refine ⟨pl.isList.typeIs, fun a e => ?_⟩
      cases e
      obtain ⟨o, n, e, c, hd, _⟩ := pl
      exact ⟨o, e, hd⟩
    · refine ⟨⟨o, I.kIn p o hk, hc⟩, fun a e => ?_⟩
      cases e
      exact ⟨o, I.kIn _ o hk, hd⟩
    · have z : ∃ o, s.heap.get? p = some o ∧ o.ExactDict := by
        rcases hk with ⟨kvs, hk⟩ | ⟨kvs, hk⟩
        · obtain ⟨_, _, _, _, o, _, _, e, ex, _⟩ := I.hok p _ hk
          exact ⟨o, e, ex⟩
        · obtain ⟨_, _, _, _, o, _, _, e, ex, _⟩ := I.hok p _ hk
          exact ⟨o, e, ex⟩
      obtain ⟨o, e, ex⟩ := z
      refine ⟨⟨o, e, ex.1⟩, fun a e2 => ?_⟩
      cases e2
      exact ⟨o, e, ex.2.1⟩
    · obtain ⟨o, _, _, _, e, ex, _⟩ := I.hok p _ hk
      refine ⟨⟨o, e, ex.1⟩, fun a e2 => ?_⟩
      cases e2
      exact ⟨o, e, ex.2.1⟩
  | _ => exact False.elim ty
def tBM (K : PySem.W.Frag) (T : String) (r : V → List V → Hp → VK → Prop) (to : TE) (t : TA) : TE := fun σ H Q => to σ H fun x H1 => tyV K T x H1 ∧ t σ H1 fun xs H2 => r x xs H2 Q
variable {o e : Expr} {es : List Expr} {to : TE} {t : TA} {name : Str} {apos cpos : Pos} {T id : String} {r : V → List V → Hp → VK → Prop}
theorem pe_bm (pa : PlainAttrs T) (slot : Slot T name id) (hty : typeOf (.builtin id) = pure (.type "method_descriptor")) (hm : MtR X id r) (ho : PE X o to) (ha : PA X (e :: es) t)
    (hbase : attributeBase o name X.env (eval o X.env) = eval o X.env := by rfl)
    (hfew : ((backTo cpos (starEach (e :: es) X.env)).all (fun x => !x.1) && (backToKw cpos (keywordEach [] X.env)).all (fun x => x.1.isSome)
      && decide ((e :: es).length + ([] : List Keyword).length + (if ([] : List Keyword).isEmpty then 0 else 1) < 30)) = true := by rfl)
    (hline : (apos.endLine == cpos.line) = true := by rfl) (hs : starEach (e :: es) X.env = (false, eval e X.env) :: starEach es X.env := by rfl) (hplain : (backTo cpos (starEach es X.env)).any (·.1) = false := by rfl) :
    PE X (.Call (.Attribute o name apos) (e :: es) [] cpos) (tBM X.K T r to t) := by
  intro pins s σ H Q I h
  refine wpAny_Call_method_late hbase hfew hline rfl (thn (ho pins s σ H _ I h) fun v s1 ⟨x, H1, I1, r1, ty, q1⟩ => ?_)
  obtain ⟨h1, h2⟩ := tyV_is I1 r1 ty
  refine ⟨T, id, pa, slot, hty, h1, h2, ?_⟩
  have hA := ha cpos pins s1 σ H1 _ I1 q1
  rw [hs] at hA ⊢
  refine Calls.callWith_builtin (by show (false || (backTo cpos (starEach es X.env)).any (·.1)) = false; rw [hplain] <;> rfl) (Calls.evalArgs_plain ?_)
  exact thn hA fun us s2 ⟨vs, H2, I2, r2, q2⟩ => hm pins s2 σ H2 x vs v us Q I2 r1 r2 q2
/- xs.append(e), list.index on a module's tuple .. are MtR facts of 06m -/
end
end L2
namespace L2
open PySem PySem.Spec PyProof.Rows
def MtM (X : Cx) (id : String) (r : V → List V → Hp → VK → Prop) : Prop :=
  ∀ (pins : List (Addr × Obj)) (s : Shared) (σ : St) (H : Hp) (x : V) (xs : List V) (v : Value) (us : List Value) (Q : VK), Inv X pins σ H s → RelV x v → Vals xs us → r x xs H Q →
    wpAny (model X.prog X.w) X.A (call (.builtin id) (v :: us)) (EP X pins σ Q) X.xe s
/-! ### lists of values -/
theorem Vals.one : ∀ {x : V} {us : List Value}, Vals [x] us → ∃ u, us = [u] ∧ RelV x u
  | _, _, .cons r .nil => ⟨_, rfl, r⟩
theorem Vals.two : ∀ {x y : V} {us : List Value}, Vals [x, y] us → ∃ u v, us = [u, v] ∧ RelV x u ∧ RelV y v
  | _, _, _, .cons r (.cons q .nil) => ⟨_, _, rfl, r, q⟩
theorem Vals.zero : ∀ {us : List Value}, Vals [] us → us = []
  | _, .nil => rfl
theorem Vals.reverse {xs : List V} {us : List Value} (h : Vals xs us) : Vals xs.reverse us.reverse := by
  induction h with
  | nil => exact .nil
  | cons r t ih => rw [List.reverse_cons, List.reverse_cons]; exact Vals.append ih (.cons r .nil)
theorem Vals.rep {xs : List V} {us : List Value} (h : Vals xs us) : ∀ k : Nat, Vals (List.replicate k xs).flatten (List.replicate k us).flatten
  | 0 => .nil
  | k + 1 => by
    rw [List.replicate_succ, List.replicate_succ, List.flatten_cons, List.flatten_cons]
    exact Vals.append h (Vals.rep h k)
theorem foldl_rep (its : List Value) : ∀ (k : Nat) (acc : List Value),
    List.foldl (fun x1 x2 => x1 ++ x2) acc.toArray (List.replicate k its.toArray) = (acc ++ (List.replicate k its).flatten).toArray
  | 0, acc => by simp
  | k + 1, acc => by
    have e : acc.toArray ++ its.toArray = (acc ++ its).toArray := by simp
    have e2 : (acc ++ its) ++ (List.replicate k its).flatten = acc ++ (List.replicate (k + 1) its).flatten := by
      rw [List.replicate_succ, List.flatten_cons, List.append_assoc]
    rw [← e2, ← foldl_rep its k (acc ++ its), ← e, List.replicate_succ, List.foldl_cons]
section
variable {X : Cx} {pins : List (Addr × Obj)} {σ : St} {H : Hp} {s : Shared} {l b : Addr} {xs ys zs : List V}
/-! ### the two steps: a tracked list is rewritten, a new list is laid -/
theorem Inv.lset {its its' : List Value} {n : Nat} {f : Array Value → Array Value} {t' : Nat} (I : Inv X pins σ H s) (hH : H l = some (.lst xs))
    (e : s.heap.get? l = some { cls := .type "list", data := .seq its.toArray n }) (hf : f its.toArray = its'.toArray) (hv : Vals ys its') (hz : ys.length ≤ sizeLine) :
    Inv X pins σ (upd H l (.lst ys)) { s with heap := s.heap.update l (Obj.mapSeq f), toks := t' } := by
  have q := PySem.IsL.update e f
  rw [hf] at q
  refine I.write (x := l) (e := l) (by rw [hH]; exact trivial) (.inl rfl) (fun b' u hb hu => (Heap.get?_update_other s.heap (Obj.mapSeq f) (Ne.symm hb)).trans hu) ⟨_, q⟩ ?_
  exact ⟨hz, its', _, hv, q⟩
theorem Inv.lnew {its : List Value} {t' : Nat} (I : Inv X pins σ H s) (hv : Vals ys its) (hz : ys.length ≤ sizeLine) :
    Inv X pins σ (upd H s.heap.objs.size (.lst ys)) { s with heap := s.heap.push { cls := .type "list", data := .seq its.toArray }, toks := t' } :=
  I.laid (fun _ _ q => Heap.get?_push_of_some _ q) (Nat.le_refl _) ⟨hz, its, 0, hv, Heap.get?_push_size _ rfl⟩
theorem Inv.fresh (I : Inv X pins σ H s) : H s.heap.objs.size = none := I.hok.fresh (Nat.le_refl _)
theorem Inv.lstM (I : Inv X pins σ H s) (hH : H l = some (.lst xs)) : xs.length ≤ sizeLine ∧ ∃ (its : List Value) (n : Nat), Vals xs its ∧ xs.length = its.length ∧ s.heap.get? l = some { cls := .type "list", data := .seq its.toArray n } := by
  obtain ⟨z, its, n, r, e⟩ := I.hok l _ hH
  exact ⟨z, its, n, r, r.length, e⟩
theorem notLongL {n : Nat} (h : n ≤ sizeLine) : Builtin.List.listTooLong n = false := by
  unfold Builtin.List.listTooLong
  exact decide_eq_false (by omega)
end
section
variable {X : Cx}
/-! ### methods -/
def rAppend : V → List V → Hp → VK → Prop := fun x vs H Q => ∃ l xs y, x = .ref l ∧ vs = [y] ∧ H l = some (.lst xs) ∧ xs.length < sizeLine ∧ Q .non (upd H l (.lst (xs ++ [y])))
theorem mt_append : MtM X "list.append" rAppend := by
  intro pins s σ H x vs v us Q I rx rv h
  obtain ⟨l, xs, y, rfl, rfl, hH, hz, q⟩ := h
  cases rx
  obtain ⟨u, rfl, ru⟩ := rv.one
  obtain ⟨z, its, n, r, hl, e⟩ := I.lstM hH
  refine call_meets F.slot_list_append ⟨_, e, rfl⟩ F.entry_list_append (F.args_list_append_2 _ _) (PySem.list_append l its.toArray n u (by rw [List.size_toArray]; omega)) ⟨e, ?_⟩
  refine ⟨.non, _, I.lset (its' := its ++ [u]) hH e (by simp) (r.append (.cons ru .nil)) ?_, rfl, q⟩
  rw [List.length_append, List.length_singleton]
  omega
/-! ### list + list, list += list, list * int -/
def rCat : R2 := fun x y H Q => ∃ l b xs zs, x = .ref l ∧ y = .ref b ∧ H l = some (.lst xs) ∧ H b = some (.lst zs) ∧ xs.length + zs.length ≤ sizeLine ∧ ∀ p, H p = none → Q (.ref p) (upd H p (.lst (xs ++ zs)))
theorem op_cat : OpR X (binaryOp .Add) rCat := by
  intro pins s σ H x y v u Q I rx ry h
  obtain ⟨l, b, xs, zs, rfl, rfl, hH, hB, hz, q⟩ := h
  cases rx
  cases ry
  obtain ⟨z, its, n, r, hl, e⟩ := I.lstM hH
  obtain ⟨z2, its2, n2, r2, hl2, e2⟩ := I.lstM hB
  refine PySem.P.add_list e e2 ?_ (by rw [List.size_toArray, List.size_toArray]; omega)
  have ea : its.toArray ++ its2.toArray = (its ++ its2).toArray := by simp
  rw [ea]
  exact ⟨.ref _, _, I.lnew (t' := s.toks) (r.append r2) (by rw [List.length_append]; omega), rfl, q _ I.fresh⟩
/-- a list times an int (a negative one is nothing) -/
def rRep : R2 := fun x y H Q => ∃ l k xs, x = .ref l ∧ y = .int k ∧ H l = some (.lst xs) ∧ -(2 ^ 63) ≤ k ∧ k < 2 ^ 63 ∧ xs.length * k.toNat ≤ sizeLine ∧
  ∀ p, H p = none → Q (.ref p) (upd H p (.lst (List.replicate k.toNat xs).flatten))
theorem len_rep {α : Type} (xs : List α) (k : Nat) : (List.replicate k xs).flatten.length = k * xs.length := by
  induction k with
  | zero => simp
  | succ k ih => rw [List.replicate_succ, List.flatten_cons, List.length_append, ih, Nat.succ_mul, Nat.add_comm]
theorem op_rep : OpR X (binaryOp .Mult) rRep := by
  intro pins s σ H x y v u Q I rx ry h
  obtain ⟨l, k, xs, rfl, rfl, hH, h1, h2, hz, q⟩ := h
  cases rx
  obtain ⟨t, rfl⟩ := ry
  obtain ⟨z, its, n, r, hl, e⟩ := I.lstM hH
  have hlen : its.toArray.size * k.toNat ≤ sizeLine := by rw [List.size_toArray, ← hl]; exact hz
  have hcap : ¬ its.toArray.size * k.toNat > (2 ^ 63 - 1) / 8 := by
    have : (sizeLine : Nat) ≤ (2 ^ 63 - 1) / 8 := by decide
    omega
  have hfit : ¬ (!Builtin.List.listFitsIndex k) = true := by
    rw [fitsIndex_both h1 h2]
    exact Bool.false_ne_true
  have hlong : ¬ Builtin.List.listTooLong (its.toArray.size * k.toNat) = true := by
    rw [notLongL hlen]
    exact Bool.false_ne_true
  have hnew : List.foldl (fun x1 x2 => x1 ++ x2) #[] (List.replicate (if its.toArray.isEmpty = true then 0 else k.toNat) its.toArray) = (List.replicate k.toNat its).flatten.toArray := by
    have f0 : ∀ m : Nat, List.foldl (fun x1 x2 => x1 ++ x2) #[] (List.replicate m its.toArray) = (List.replicate m its).flatten.toArray := fun m => by
      have := foldl_rep its m []
      rw [List.nil_append] at this
      exact this
    rw [f0]
    cases its with
    | nil => simp
    | cons a r' => rw [if_neg (by simp)]
  refine wpAny_binaryOp_repeat_ref (T := "list") (U := "int") (by decide) ⟨_, e, rfl⟩ (fun s' => typeIs_int s' k t) noFill_list_mul F.fills_int_mul F.slot_int_rmul repeat_list F.slot_int_index.lookup
    (call_meets F.slot_int_rmul (typeIs_int s k t) F.entry_int_rmul (F.args_int_rmul_2 _ _) (int___rmul___int_list k t l its.toArray n)
      ⟨e, rfl, ⟨_, e, rfl⟩, call_meets F.slot_list_mul ⟨_, e, rfl⟩ F.entry_list_mul (F.args_list_mul_2 _ _) (AutoListH.list___mul___list_int_3 l its.toArray n k t hfit hcap hlong) ⟨e, ?_⟩⟩)
  rw [hnew]
  exact ⟨.ref _, _, I.lnew (t' := s.toks) (r.rep k.toNat) (by rw [len_rep, Nat.mul_comm]; exact hz), rfl, q _ I.fresh⟩
end
/-! ### xs[a:b] = ys -/
section
variable {prog : Program} {w : World} {A : Around} {E : Value → Shared → Prop} {s : Shared}
set_option maxRecDepth 100000 in
end
section
variable {X : Cx}
end
end L2
namespace L2
open PySem PySem.Spec PyProof.Rows
/-! ### lists of pairs as tables -/
section
variable {κ : Type} [DecidableEq κ]
def valV (kvs : List (κ × V)) (k : κ) : Option V := (kvs.find? fun kv => decide (kv.1 = k)).map (·.2)
/-- in its place, or at the end -/
def putK (kvs : List (κ × V)) (k : κ) (v : V) : List (κ × V) :=
  if (kvs.any fun kv => decide (kv.1 = k)) = true then kvs.map (fun kv => if kv.1 = k then (kv.1, v) else kv) else kvs ++ [(k, v)]
def dropK (kvs : List (κ × V)) (k : κ) : List (κ × V) := kvs.filter fun kv => decide (kv.1 ≠ k)
theorem valV_pos {p : κ × V} {r : List (κ × V)} {k : κ} (e : p.1 = k) : valV (p :: r) k = some p.2 := by simp [valV, List.find?_cons, e]
theorem valV_neg {p : κ × V} {r : List (κ × V)} {k : κ} (e : ¬ p.1 = k) : valV (p :: r) k = valV r k := by simp [valV, List.find?_cons, e]
theorem valV_any (k : κ) : ∀ kvs : List (κ × V), (kvs.any fun kv => decide (kv.1 = k)) = (valV kvs k).isSome
  | [] => rfl
  | p :: r => by
    rw [List.any_cons]
    by_cases e : p.1 = k
    · simp only [valV_pos e, decide_eq_true e, Bool.true_or, Option.isSome_some]
    · rw [valV_neg e, decide_eq_false e, Bool.false_or]; exact valV_any k r
theorem valV_map (k j : κ) (y : V) : ∀ kvs : List (κ × V), valV (kvs.map fun kv => if kv.1 = k then (kv.1, y) else kv) j = (valV kvs j).map fun x => if j = k then y else x
  | [] => rfl
  | p :: r => by
    have ih := valV_map k j y r
    rw [List.map_cons]
    by_cases h : p.1 = k
    · rw [if_pos h]
      by_cases e : p.1 = j
      · rw [valV_pos (p := (p.1, y)) e, valV_pos e, Option.map_some, if_pos (e.symm.trans h)]
      · rw [valV_neg (p := (p.1, y)) e, valV_neg e, ih]
    · rw [if_neg h]
      by_cases e : p.1 = j
      · rw [valV_pos (p := p) e, valV_pos e, Option.map_some, if_neg (fun z => h (e.trans z))]
      · rw [valV_neg (p := p) e, valV_neg e, ih]
theorem valV_snoc (k j : κ) (y : V) : ∀ kvs : List (κ × V), valV kvs k = none → valV (kvs ++ [(k, y)]) j = if j = k then some y else valV kvs j
  | [], _ => by
    by_cases e : k = j
    · rw [if_pos e.symm]; exact valV_pos (p := (k, y)) e
    · rw [if_neg (fun z => e z.symm)]; exact valV_neg (p := (k, y)) e
  | p :: r, hn => by
    rw [List.cons_append]
    have hk : ¬ p.1 = k := fun z => by rw [valV_pos z] at hn; cases hn
    rw [valV_neg hk] at hn
    have ih := valV_snoc k j y r hn
    by_cases e : p.1 = j
    · rw [valV_pos e, valV_pos e, if_neg (fun z => hk (e.trans z))]
    · rw [valV_neg e, valV_neg e, ih]
theorem valV_put (kvs : List (κ × V)) (k j : κ) (y : V) : valV (putK kvs k y) j = if j = k then some y else valV kvs j := by
  unfold putK
  by_cases a : (kvs.any fun kv => decide (kv.1 = k)) = true
  · rw [if_pos a, valV_map]
    rw [valV_any] at a
    by_cases e : j = k
    · obtain ⟨x, hx⟩ := Option.isSome_iff_exists.mp a
      rw [if_pos e, e, hx, Option.map_some, if_pos rfl]
    · rw [if_neg e]
      cases valV kvs j with
      | none => rfl
      | some x => rw [Option.map_some, if_neg e]
  · rw [if_neg a]
    refine valV_snoc k j y kvs ?_
    rw [valV_any] at a
    cases q : valV kvs k with
    | none => rfl
    | some x => rw [q] at a; exact (a rfl).elim
theorem length_putK (kvs : List (κ × V)) (k : κ) (v : V) : (putK kvs k v).length ≤ kvs.length + 1 := by
  unfold putK
  split
  · rw [List.length_map]; omega
  · rw [List.length_append, List.length_cons, List.length_nil]; omega
theorem RelO.isSome_eq {o : Option V} {u : Option Value} (r : RelO o u) : o.isSome = u.isSome := by
  cases o with
  | none => cases u with
    | none => rfl
    | some _ => exact (show False from r).elim
  | some _ => cases u with
    | none => exact (show False from r).elim
    | some _ => rfl
theorem RelO.getD {o : Option V} {u : Option Value} {d : V} {d' : Value} (r : RelO o u) (rd : RelV d d') : RelV (o.getD d) (u.getD d') := by
  cases o with
  | none => cases u with
    | none => exact rd
    | some _ => exact (show False from r).elim
  | some _ => cases u with
    | none => exact (show False from r).elim
    | some _ => exact r
/-- raw tables of the same keys -/
theorem KV.val {kvs : List (κ × V)} {vs : List (κ × Value)} (r : KV kvs vs) (k : κ) : RelO (valV kvs k) (valueAt vs k) := by
  unfold KV at r
  induction r with
  | nil => exact True.intro
  | @cons p q ps qs h t ih =>
    obtain ⟨h1, h2⟩ := h
    by_cases e : p.1 = k
    · have e' : q.1 = k := h1.symm.trans e
      have b : valueAt (q :: qs) k = some q.2 := by simp [valueAt, List.find?_cons, e']
      rw [valV_pos e, b]; exact h2
    · have e' : ¬ q.1 = k := fun z => e (h1.trans z)
      have b : valueAt (q :: qs) k = valueAt qs k := by simp [valueAt, List.find?_cons, e']
      rw [valV_neg e, b]; exact ih
theorem KV.any {kvs : List (κ × V)} {vs : List (κ × Value)} (r : KV kvs vs) (k : κ) : (kvs.any fun kv => decide (kv.1 = k)) = vs.any fun kv => decide (kv.1 = k) := by
  unfold KV at r
  induction r with
  | nil => rfl
  | cons h t ih => rw [List.any_cons, List.any_cons, ih, h.1]
theorem KV.repl {kvs : List (κ × V)} {vs : List (κ × Value)} (r : KV kvs vs) (k : κ) {y : V} {u : Value} (ry : RelV y u) :
    KV (kvs.map fun kv => if kv.1 = k then (kv.1, y) else kv) (vs.map fun kv => if kv.1 = k then (kv.1, u) else kv) := by
  unfold KV at r ⊢
  induction r with
  | nil => exact .nil
  | @cons p q ps qs h t ih =>
    rw [List.map_cons, List.map_cons]
    refine .cons ?_ ih
    obtain ⟨h1, h2⟩ := h
    by_cases e : p.1 = k
    · rw [if_pos e, if_pos (h1.symm.trans e)]; exact ⟨h1, ry⟩
    · rw [if_neg e, if_neg (fun z => e (h1.trans z))]; exact ⟨h1, h2⟩
theorem KV.put {kvs : List (κ × V)} {vs : List (κ × Value)} (r : KV kvs vs) (k : κ) {y : V} {u : Value} (ry : RelV y u) : KV (putK kvs k y) (stored vs k u) := by
  unfold putK stored
  rw [r.any k]
  by_cases e : (vs.any fun kv => decide (kv.1 = k)) = true
  · rw [if_pos e, if_pos e]; exact r.repl k ry
  · rw [if_neg e, if_neg e]; exact Paired.snoc r ⟨rfl, ry⟩
theorem KV.drop {kvs : List (κ × V)} {vs : List (κ × Value)} (r : KV kvs vs) (k : κ) : KV (dropK kvs k) (without vs k) := by
  unfold KV at r ⊢
  unfold dropK without
  induction r with
  | nil => exact .nil
  | @cons p q ps qs h t ih =>
    obtain ⟨h1, h2⟩ := h
    rw [List.filter_cons, List.filter_cons]
    by_cases e : p.1 = k
    · have a : ¬ decide (p.1 ≠ k) = true := by simp [e]
      have b : ¬ decide (q.1 ≠ k) = true := by simp [h1.symm.trans e]
      rw [if_neg a, if_neg b]; exact ih
    · have e' : ¬ q.1 = k := fun z => e (h1.trans z)
      have a : decide (p.1 ≠ k) = true := by simp [e]
      have b : decide (q.1 ≠ k) = true := by simp [e']
      rw [if_pos a, if_pos b]; exact .cons ⟨h1, h2⟩ ih
theorem KV.keys {kvs : List (κ × V)} {vs : List (κ × Value)} (r : KV kvs vs) : kvs.map (·.1) = vs.map (·.1) := by
  unfold KV at r
  induction r with
  | nil => rfl
  | cons h t ih => rw [List.map_cons, List.map_cons, ih, h.1]
theorem KV.length {kvs : List (κ × V)} {vs : List (κ × Value)} (r : KV kvs vs) : kvs.length = vs.length := Paired.length r
end
/-! ### a tracked dict, its keys ints and texts or tuples of these -/
theorem kV_is {P : Program} {w : World} {k : Key} {u : Value} (r : RelV (kV k) u) : (mixKind P w).is k u = true := by
  cases k with
  | inl i => obtain ⟨t, e⟩ := (show ∃ t, u = Value.int i t from r); subst e; exact mixKind_int P w i t
  | inr x => obtain ⟨t, e⟩ := (show ∃ t, u = Value.str x t from r); subst e; exact mixKind_str P w x t
theorem items_are {P : Program} {w : World} : ∀ {ks : List Key} {us : List Value}, Vals (ks.map kV) us → ItemsAre (mixKind P w) ks us
  | [], _, r => by rw [List.map_nil] at r; cases r; exact .nil
  | k :: ks, _, r => by
    rw [List.map_cons] at r
    cases r with
    | cons h t => exact .cons (kV_is h) (items_are t)
/-- raw entries of a dict with tuple keys -/
abbrev KT (H : Hp) : List (List Key × V) → List (List Key × Addr × Value) → Prop := Paired fun p q => p.1 = q.1 ∧ H q.2.1 = some (.tup (p.1.map kV)) ∧ RelV p.2 q.2.2
theorem KT.val {H : Hp} {kvs : List (List Key × V)} {xs : List (List Key × Addr × Value)} (r : KT H kvs xs) (k : List Key) : RelO (valV kvs k) ((atKey xs k).map (·.2)) := by
  induction r with
  | nil => exact True.intro
  | @cons p q ps qs h t ih =>
    obtain ⟨h1, _, h2⟩ := h
    by_cases e : p.1 = k
    · have e' : q.1 = k := h1.symm.trans e
      have b : atKey (q :: qs) k = some q.2 := by simp [atKey, List.find?_cons, e']
      rw [valV_pos e, b]; exact h2
    · have e' : ¬ q.1 = k := fun z => e (h1.trans z)
      have b : atKey (q :: qs) k = atKey qs k := by simp [atKey, List.find?_cons, e']
      rw [valV_neg e, b]; exact ih
theorem KT.repl {H : Hp} {kvs : List (List Key × V)} {xs : List (List Key × Addr × Value)} (r : KT H kvs xs) (k : List Key) {y : V} {u : Value} (ry : RelV y u) :
    KT H (kvs.map fun kv => if kv.1 = k then (kv.1, y) else kv) (xs.map (putAt k u)) := by
  induction r with
  | nil => exact .nil
  | @cons p q ps qs h t ih =>
    rw [List.map_cons, List.map_cons]
    refine .cons ?_ ih
    obtain ⟨h1, h2, h3⟩ := h
    unfold putAt
    by_cases e : p.1 = k
    · rw [if_pos e, if_pos (h1.symm.trans e)]; exact ⟨h1, h2, ry⟩
    · rw [if_neg e, if_neg (fun z => e (h1.trans z))]; exact ⟨h1, h2, h3⟩
theorem KT.put {H : Hp} {kvs : List (List Key × V)} {xs : List (List Key × Addr × Value)} (r : KT H kvs xs) (k : List Key) {b : Addr} {y : V} {u : Value} (hb : H b = some (.tup (k.map kV))) (ry : RelV y u) :
    KT H (putK kvs k y) (storedH xs k b u) := by
  have e : (kvs.any fun kv => decide (kv.1 = k)) = (atKey xs k).isSome := by
    rw [valV_any, (r.val k).isSome_eq, Option.isSome_map]
  unfold putK storedH
  rw [e]
  by_cases q : (atKey xs k).isSome = true
  · rw [if_pos q, if_pos q]; exact r.repl k ry
  · rw [if_neg q, if_neg q]; exact Paired.snoc r ⟨rfl, hb, ry⟩
theorem KT.keeps {H H' : Hp} {kvs : List (List Key × V)} {xs : List (List Key × Addr × Value)} (r : KT H kvs xs) (ht : ∀ b ys, H b = some (.tup ys) → H' b = some (.tup ys)) : KT H' kvs xs :=
  Paired.mapP r fun _ _ z => ⟨z.1, ht _ _ z.2.1, z.2.2⟩
section
variable {P : Program} {w : World} {H : Hp} {h : Heap} {a : Addr}
theorem rd_of {u : HO} (ok : HOk P w H h) (e : Rd H a u) : ObjOk P w H h a u := e.ok ok
theorem dk_rd {kvs : List (Key × V)} (ok : HOk P w H h) (e : Rd H a (.dK kvs)) : kvs.length ≤ sizeLine ∧ (a == sysModules) = false ∧ ∃ vs, KV kvs vs ∧ h.DictOf (mixKind P w) a vs :=
  show ObjOk P w H h a (.dK kvs) from rd_of ok e
theorem dk_of {kvs : List (Key × V)} (ok : HOk P w H h) (e : H a = some (.dK kvs)) : kvs.length ≤ sizeLine ∧ (a == sysModules) = false ∧ ∃ vs, KV kvs vs ∧ h.DictOf (mixKind P w) a vs := dk_rd ok (.inl e)
/-- a tracked tuple of ints and texts is a key -/
theorem key_of {ks : List Key} (ok : HOk P w H h) (e : H a = some (.tup (ks.map kV))) : (tupleKind (mixKind P w)).is h ks a := by
  obtain ⟨_, its, r, o, h1, h2, n, h3⟩ := (show ObjOk P w H h a (.tup (ks.map kV)) from ok a _ e)
  exact ⟨o, its.toArray, n, h1, h2, h3, by simpa using items_are r⟩
theorem dt_rd {kvs : List (List Key × V)} (ok : HOk P w H h) (e : Rd H a (.dT kvs)) : kvs.length ≤ sizeLine ∧ (a == sysModules) = false ∧
    ∃ xs, KT H kvs xs ∧ h.DictOfH (tupleKind (mixKind P w)) a xs := by
  obtain ⟨z, y, xs, r, o, es, ep, h1, h2, h3, h4, h5⟩ := (show ObjOk P w H h a (.dT kvs) from rd_of ok e)
  refine ⟨z, y, xs, r, o, es, ep, h1, h2, h3, h4, fun x hx => ?_, h5⟩
  have all : ∀ {l : List (List Key × V)} {m : List (List Key × Addr × Value)}, KT H l m → ∀ x ∈ m, (tupleKind (mixKind P w)).is h x.1 x.2.1 := by
    intro l m q
    induction q with
    | nil => intro x hx; exact nomatch hx
    | @cons p q ps qs hq t ih =>
      intro x hx
      rcases List.mem_cons.mp hx with e | hx
      · subst e
        exact key_of ok (by rw [← hq.1]; exact hq.2.1)
      · exact ih x hx
  exact all r x hx
theorem dt_of {kvs : List (List Key × V)} (ok : HOk P w H h) (e : H a = some (.dT kvs)) : kvs.length ≤ sizeLine ∧ (a == sysModules) = false ∧
    ∃ xs, KT H kvs xs ∧ h.DictOfH (tupleKind (mixKind P w)) a xs := dt_rd ok (.inl e)
end
/-- what the dict at a holds at the key y -/
def DGet (H : Hp) (a : Addr) (y : V) (r : Option V) : Prop :=
  (∃ kvs k, Rd H a (.dK kvs) ∧ y = kV k ∧ r = valV kvs k) ∨ ∃ kvs k b, Rd H a (.dT kvs) ∧ y = .ref b ∧ H b = some (.tup (k.map kV)) ∧ r = valV kvs k
/-- the heap behind a[y] = v -/
def DPut (H : Hp) (a : Addr) (y v : V) (H' : Hp) : Prop :=
  (∃ kvs k, H a = some (.dK kvs) ∧ y = kV k ∧ kvs.length < sizeLine ∧ H' = upd H a (.dK (putK kvs k v))) ∨
  ∃ kvs k b, H a = some (.dT kvs) ∧ y = .ref b ∧ H b = some (.tup (k.map kV)) ∧ kvs.length < sizeLine ∧ H' = upd H a (.dT (putK kvs k v))
theorem DGet.k {H : Hp} {a : Addr} {kvs : List (Key × V)} {k : Key} (e : H a = some (.dK kvs)) : DGet H a (kV k) (valV kvs k) := .inl ⟨kvs, k, .inl e, rfl, rfl⟩
theorem DGet.t {H : Hp} {a b : Addr} {kvs : List (List Key × V)} {k : List Key} (e : H a = some (.dT kvs)) (eb : H b = some (.tup (k.map kV))) : DGet H a (.ref b) (valV kvs k) := .inr ⟨kvs, k, b, .inl e, rfl, eb, rfl⟩
theorem DPut.k {H : Hp} {a : Addr} {kvs : List (Key × V)} {k : Key} {v : V} (e : H a = some (.dK kvs)) (hl : kvs.length < sizeLine) : DPut H a (kV k) v (upd H a (.dK (putK kvs k v))) := .inl ⟨kvs, k, e, rfl, hl, rfl⟩
theorem DPut.t {H : Hp} {a b : Addr} {kvs : List (List Key × V)} {k : List Key} {v : V} (e : H a = some (.dT kvs)) (eb : H b = some (.tup (k.map kV))) (hl : kvs.length < sizeLine) :
    DPut H a (.ref b) v (upd H a (.dT (putK kvs k v))) := .inr ⟨kvs, k, b, e, rfl, eb, hl, rfl⟩
section
variable {X : Cx} {pins : List (Addr × Obj)} {σ : St} {H : Hp} {s : Shared} {a : Addr} {y v : V} {u r : Value} {o : Option V} {A : Around} {E : Value → Shared → Prop}
theorem Inv.big (I : Inv X pins σ H s) : sysModules < s.heap.objs.size := by
  have h : mainGlobals < s.heap.objs.size := (I.mod.glob.keeps I.bk).lt
  exact Nat.lt_trans (by decide) h
/-- d[y], there -/
theorem d_getItem {Q : Value → Shared → Prop} (hu : A.units + 1 < cLine) (I : Inv X pins σ H s) (g : DGet H a y (some v)) (ry : RelV y u) (h : ∀ w' s', Inv X pins σ H s' → RelV v w' → Q w' s') :
    wpAny (model X.prog X.w) A (getItem (.ref a) u) Q E s := by
  rcases g with ⟨kvs, k, e, ey, l⟩ | ⟨kvs, k, b, e, ey, eb, l⟩
  · subst ey
    obtain ⟨z, hd, vs, rel, dd⟩ := dk_rd I.hok e
    obtain ⟨w', hw, rw'⟩ := RelO.some_of (v := v) (o := valueAt vs k) (by rw [l]; exact rel.val k)
    exact wpAny_getItem_of (kV_is ry) dd.mapOf hw (h w' _ (I.tok _) rw')
  · subst ey
    cases (show u = Value.ref b from ry)
    obtain ⟨z, hd, xs, rel, dd⟩ := dt_rd I.hok e
    obtain ⟨w', hw, rw'⟩ := RelO.some_of (v := v) (o := (atKey xs k).map (·.2)) (by rw [l]; exact rel.val k)
    obtain ⟨p, hp, hp2⟩ := Option.map_eq_some_iff.mp hw
    refine wpAny_getItem_heap (tupleKind_room_in1 hu) (key_of I.hok eb) dd hp ?_
    rw [hp2]
    exact h w' _ (I.tok _) rw'
/-- y in d -/
theorem d_in {Q : Value → Shared → Prop} (hu : A.units + 1 < cLine) (I : Inv X pins σ H s) (g : DGet H a y o) (ry : RelV y u) (h : ∀ s', Inv X pins σ H s' → Q (.bool o.isSome) s') :
    wpAny (model X.prog X.w) A (compareOp .In u (.ref a)) Q E s := by
  rcases g with ⟨kvs, k, e, ey, l⟩ | ⟨kvs, k, b, e, ey, eb, l⟩
  · subst ey
    obtain ⟨z, hd, vs, rel, dd⟩ := dk_rd I.hok e
    refine wpAny_in_of (kV_is ry) hd dd.mapOf ?_
    rw [← (rel.val k).isSome_eq, ← l]
    exact h _ (I.tok _)
  · subst ey
    cases (show u = Value.ref b from ry)
    obtain ⟨z, hd, xs, rel, dd⟩ := dt_rd I.hok e
    refine wpAny_in_heap (tupleKind_room_in1 hu) (key_of I.hok eb) hd dd ?_
    have q := (rel.val k).isSome_eq
    rw [Option.isSome_map] at q
    rw [← q, ← l]
    exact h _ (I.tok _)
/-- a dict's object is replaced -/
theorem d_write {h' : Heap} {t' : Nat} {ob : HO} (I : Inv X pins σ H s) (mu : Mut (H a)) (hs : Heap.SameBut a s.heap h') (he : ∃ q, h'.get? a = some q) (new : ObjOk X.prog X.w (upd H a ob) h' a ob) :
    Inv X pins σ (upd H a ob) { s with heap := h', toks := t' } :=
  I.write (x := a) (e := a) mu (.inl rfl) (fun b q hb z => (hs.2 b hb).trans z) he new
theorem dk_new {P : Program} {w : World} {H' : Hp} {h' : Heap} {kvs : List (Key × V)} {vs : List (Key × Value)} (z : kvs.length ≤ sizeLine) (hd : (a == sysModules) = false) (rel : KV kvs vs) (dd : h'.DictOf (mixKind P w) a vs) :
    ObjOk P w H' h' a (.dK kvs) := ⟨z, hd, vs, rel, dd⟩
/-- d[y] = v -/
theorem d_setItem {H' : Hp} {Q : Unit → Shared → Prop} (hu : A.units + 1 < cLine) (I : Inv X pins σ H s) (g : DPut H a y v H') (ry : RelV y u) (rv : RelV v r) (h : ∀ s', Inv X pins σ H' s' → Q () s') :
    wpAny (model X.prog X.w) A (setItem (.ref a) u r) Q E s := by
  rcases g with ⟨kvs, k, e, ey, l, eH⟩ | ⟨kvs, k, b, e, ey, eb, l, eH⟩
  · subst ey eH
    obtain ⟨z, hd, vs, rel, dd⟩ := dk_of I.hok e
    have hz : vs.length ≤ sizeLine := by rw [← rel.length]; exact z
    have hl : (putK kvs k v).length ≤ sizeLine := by have := length_putK kvs k v; omega
    refine wpAny_setItem_pairs (hsz := hz) (kV_is ry) dd fun h' dd' hs => h _ ?_
    have he : ∃ q, h'.get? a = some q := let ⟨q, _, _, hq, _⟩ := dd'; ⟨q, hq⟩
    exact d_write I (by rw [e]; exact True.intro) hs he (dk_new hl hd (rel.put k rv) dd')
  · subst ey eH
    cases (show u = Value.ref b from ry)
    obtain ⟨z, hd, xs, rel, dd⟩ := dt_of I.hok e
    have hz : xs.length ≤ sizeLine := by rw [← Paired.length rel]; exact z
    have hl : (putK kvs k v).length ≤ sizeLine := by have := length_putK kvs k v; omega
    refine wpAny_setItem_heap (hsz := hz) (tupleKind_room_in1 hu) (key_of I.hok eb) dd fun h' dd' hs => h _ ?_
    obtain ⟨q, es, ep, hq, h2, h3, h4, _, h5⟩ := dd'
    refine d_write I (by rw [e]; exact True.intro) hs ⟨q, hq⟩ ⟨hl, hd, _, (rel.put k eb rv).keeps fun c ys ec => ?_, q, es, ep, hq, h2, h3, h4, h5⟩
    rw [upd_ne (ne_of ec e (fun z => nomatch z))]
    exact ec
end
section
variable {X : Cx} {pins : List (Addr × Obj)} {σ : St} {H : Hp} {s : Shared} {a : Addr} {kvs : List (Key × V)} {k : Key} {u : Value} {A : Around} {E : Value → Shared → Prop}
end
/-! ### readings and rules -/
/-- the element of a subscription, not a slice -/
def NoSl (i : Expr) : Prop := ∀ ov iv, subscripted i false ov iv = operate [ov, iv] (getItem ov iv)
theorem subD_of {prog : Program} {w : World} {A : Around} {E : Value → Shared → Prop} {s : Shared} {env : Env} {value slice : Expr} {pos : Pos} {T id : String} {Q : Value → Shared → Prop}
    (hl : typeLookup (.type T) "__getitem__" = pure (some (.builtin id))) (hs : NoSl slice)
    (h : wpAny (model prog w) A (eval value env) (fun o s₁ => wpAny (model prog w) A (eval slice env) (fun i s₂ => s₂.TypeIs o T ∧ wpAny (model prog w) A (getItem o i) Q E s₂) E s₁) E s) :
    wpAny (model prog w) A (eval (.Subscript value slice pos) env) Q E s := by
  refine Subscript_ (wpAny_mono h (fun o s₁ h₁ => wpAny_mono h₁ (fun i s₂ h₂ => ?_) fun _ _ x => x) fun _ _ x => x)
  obtain ⟨hT, h₂⟩ := h₂
  unfold subscriptTail
  refine wpAny_bind ?_
  rw [getitemInPython_of_ne hT.not_modules]
  refine wpAny_bind (wpAny_specialOf hT hl ?_)
  have fin : wpAny (model prog w) A (subscripted slice false o i) (fun r s₃ => wpAny (model prog w) A (letTemporaryGo value o r >>= fun _ => pure r) Q E s₃) E s₂ := by
    rw [hs o i]
    exact wpAny_operating (wpAny_mono h₂ (fun r s₃ h₃ => wpAny_bind (wpAny_letTemporaryGo (wpAny_pure h₃))) fun _ _ x => x)
  first
    | exact wpAny_pure (wpAny_bind fin)
    | exact wpAny_bind (wpAny_pure (wpAny_bind fin))
    | exact wpAny_bind fin
theorem dict_typeIs {X : Cx} {pins : List (Addr × Obj)} {σ : St} {H : Hp} {s : Shared} {a : Addr} {y : V} {o : Option V} (I : Inv X pins σ H s) (g : DGet H a y o) : s.TypeIs (.ref a) "dict" := by
  rcases g with ⟨kvs, k, e, _, _⟩ | ⟨kvs, k, b, e, _, _, _⟩
  · obtain ⟨_, _, vs, _, dd⟩ := dk_rd I.hok e
    exact dd.typeIs
  · obtain ⟨_, _, xs, _, dd⟩ := dt_rd I.hok e
    exact dd.typeIs
section
variable {X : Cx} {o i e value : Expr} {pos pos' tpos : Pos} {td ty tv : TE}
end
theorem dt_empty {P : Program} {w : World} {H : Hp} (h : Heap) (hb : sysModules < h.objs.size) : ObjOk P w H (h.push { cls := .type "dict", data := .dict #[] }) h.objs.size (.dT []) :=
  ⟨Nat.zero_le _, beq_eq_false_iff_ne.mpr (Ne.symm (Nat.ne_of_lt hb)), [], .nil, _, #[], 0, Heap.get?_push_size _ rfl, ⟨rfl, rfl, rfl⟩, rfl, rfl, List.nodup_nil⟩
def tDNewT : TE := fun _ H Q => ∀ p, H p = none → Q (.ref p) (upd H p (.dT []))
section
variable {X : Cx} {pos : Pos}
theorem pe_dnewT : PE X (.Dict [] [] pos) tDNewT := fun pins s σ H Q I h =>
  wpAny_Dict_empty ⟨.ref s.heap.objs.size, _, I.laid (a := s.heap.objs.size) (o := .dT []) (t' := s.toks) (fun _ _ q => Heap.get?_push_of_some _ q) (Nat.le_refl _) (dt_empty s.heap I.big), rfl, h _ (I.hok.fresh (Nat.le_refl _))⟩
end
section
variable {X : Cx} {pins : List (Addr × Obj)} {σ : St} {H : Hp} {s : Shared} {a : Addr} {y d : V} {u r : Value} {o : Option V} {A : Around} {E : Value → Shared → Prop}
end
section
variable {X : Cx} {o e f : Expr} {apos cpos : Pos} {td ty tx : TE}
end
/-! ### dict(d): a copy -/
section
variable {X : Cx} {pins : List (Addr × Obj)} {σ : St} {H : Hp} {s : Shared} {a : Addr} {kvs : List (Key × V)} {A : Around} {E : Value → Shared → Prop}
end
section
variable {X : Cx} {pins : List (Addr × Obj)} {σ : St} {H : Hp} {s : Shared} {a : Addr} {y : V} {u : Value} {A : Around} {E : Value → Shared → Prop}
end
end L2
namespace Att
open PySem PySem.W PySem.Calls PyProof.Rows
/-! ### the script -/
theorem ints_of_wellAll {P : Params} {h : Heap} : ∀ (ns : List Int) (vs : List Value), WellAll P h vs (ns.map WData.int) → IntsAre vs ns := by
  intro ns
  induction ns with
  | nil =>
    intro vs w
    rw [List.map_nil] at w
    cases w
    exact .nil
  | cons n ns ih =>
    intro vs w
    rw [List.map_cons] at w
    cases w with
    | cons a b =>
      cases a
      exact .cons _ _ (ih _ b)
theorem script_of {l : OpenLaw} {n : Nat} (hn : l.most = some n) {P : Params} {h : Heap} {args : List WData} {vals : List Value}
    (hpre : l.row.toRowW.claim.pre args = true) (hwl : WellAll P h vals args) :
    ∃ a vs ns, vals = [Value.ref a] ∧ args = [WData.list (ns.map WData.int)] ∧ h.get? a = some { cls := .type "list", data := .seq vs.toArray } ∧ IntsAre vs ns ∧ ns.length ≤ n := by
  have hsh : WShape.hasAll [] args [.list .int] = true := (pre_splitW hpre).1
  have hc : l.pre.holds [] { args := args } = true := (pre_splitW hpre).2
  obtain ⟨d, r, rfl, h1, h2⟩ := hasAllW_cons hsh
  obtain rfl := hasAllW_nil h2
  obtain ⟨xs, rfl, h3⟩ := hasW_list h1
  obtain ⟨ns, rfl⟩ := items_int h3
  have hlen : ns.length ≤ n := by
    unfold OpenLaw.pre at hc
    have h4 : (WTm.not (.lt (.lit (.int (n : Int))) (.len (.arg 0)))).holds [] { args := [.list (ns.map .int)] } = true := by
      have h4 := (holds_andW hc).1
      rw [hn] at h4
      exact h4
    have h5 := condW_of h4 (w_not (w_lt w_lit (w_len_list (w_arg rfl))))
    rw [List.length_map] at h5
    refine Nat.le_of_not_lt fun q => ?_
    have q' : (n : Int) < ((ns.length : Nat) : Int) := by omega
    first
      | (rw [decide_eq_true q'] at h5; exact absurd h5 (by decide))
      | (simp at h5; omega)
  cases hwl with
  | cons w1 w2 =>
    cases w2
    cases w1 with
    | list ho hall => exact ⟨_, _, ns, rfl, rfl, ho, ints_of_wellAll ns _ hall, hlen⟩
theorem post_true (l : OpenLaw) (args : List WData) : l.row.toRowW.claim.post args (.bool true) args = true :=
  postW_of (r := l.row.toRowW) (X := (true == true))
    (show WShape.has [] (.bool true) .bool = true by first | rfl | decide | simp [WShape.has, WShape.arms, WShape.armsAll])
    (show (WTm.eq .res (.lit (.bool true))).value [] { args := args, res := some (.bool true), after := args } = some (.bool (true == true)) from w_eq_bool (w_res rfl) w_lit) rfl
/-- the same from a codeAny of the CALL (for a layer whose function contracts speak of calls) -/
theorem attach_call {l : OpenLaw} {n : Nat} {q : Program} {loose : List Str} {XP : (Str → Option Value) → Heap → Prop} {YP : World → Heap → Prop} {d : DefRec}
    (hn : l.most = some n) (hdf : d.params.defaults = [])
    (call : ∀ (w : World) (s₀ s₁ : Shared) (mg mb : Str → Option Value) (fa : Addr) (o : Obj) (pm cd doc : Value) (a : Addr) (vs : List Value) (ns : List Int),
      Ground q loose [] XP w s₀ mg mb s₁.heap → YP w s₁.heap →
      s₁.heap.get? fa = some o → o.data = .func (docDef d.name d.params d.body d.scope pm cd doc) → s₁.heap.CodeRec cd d.name → mg d.name = some (.ref fa) →
      s₁.heap.get? a = some { cls := .type "list", data := .seq vs.toArray } → IntsAre vs ns → ns.length ≤ n → s₁.gens = #[] →
      codeAny (model l.prog w) callerA (.call (.ref fa) ⟨[.ref a], []⟩) (fun r s' => r = .ok (.ret (.bool true)) ∧ OldK s₁.heap s'.heap ∧ s'.os = s₁.os ∧ AllBare s'.gens) s₁) :
    WalkO q loose XP YP l.row.toRowW d [] (fun f vs => PySem.call f vs) := by
  intro w s₀ s₁ mg mb G Y fa o pm cd doc dV kV ho hd hcd hD hmg hg args vals as hpre hlay hrd hwl hlo
  obtain rfl : dV = .none := Dflts.none hD hdf
  obtain rfl : kV = .none := Dflts.noKw hD
  obtain ⟨a, vs, ns, rfl, rfl, hobj, hints, hlen⟩ := script_of hn hpre hwl
  refine enter_call (codeAny_mono (call w s₀ s₁ mg mb fa o pm cd doc a vs ns G Y ho (fd_plain hd) hcd hmg hobj hints hlen hg) fun r s' hq => ?_)
  obtain ⟨rfl, h2, h3, h4⟩ := hq
  exact ⟨.inl ⟨.bool true, .bool true, [], rfl, fun _ => rfl, .bool true, post_true l _, fun _ => ⟨List.Pairwise.nil, fun _ hm => (nomatch hm)⟩⟩, h2, h3, h4⟩
/-! ### rules over ANY heap (no ledger) from facts about the written part K: the library's own take a ledger (News) for what they write -/
section
variable {prog : Program} {w : World} {A : Around} {E : Value → Shared → Prop} {s : Shared} {K : Frag}
def ledger (h : Heap) (L d : Addr) : List (Addr × Obj) := (List.range h.objs.size).filterMap fun a => if a = L ∨ a = d then none else (h.get? a).map fun o => (a, o)
end
end Att
namespace L2
open PySem PySem.Spec PyProof.Rows
theorem vals_ints : ∀ {vs : List Value} {ns : List Int}, IntsAre vs ns → Vals (ns.map V.int) vs
  | _, _, .nil => .nil
  | _, _, .cons n t h => .cons ⟨t, rfl⟩ (vals_ints h)
/-- nothing is tracked but the script, known to the object (or it is an object of the module) -/
def Only (H : Hp) : Prop := ∀ b, H b = none ∨ ∃ o xs, H b = some (.frz o (.lst xs))
/-- THE HEAD: the law's promise, at the heap behind the top. F, the promise of the law's def, may use that base is part of the heap (so K.In base, base.Ns mainGlobals mg stand in Mod) -/
theorem law_call {P : Program} {w : World} {K : PySem.W.Frag} {mg mb : Str → Option Value} {CX : CXT} {k : Nat} {fa a : Addr} {fd : FuncData} {x : Str} {sp : Sp} {s₁ : Shared} {vs : List Value} {ns : List Int}
    (KX : K.In s₁.heap) (hns : s₁.heap.Ns mainGlobals mg) (hb : s₁.heap.Ns builtinsNs mb) (hbb : ∀ x : Str, x ≠ "__name__" → mb x = bootBuiltins x) (hlim : s₁.heap.NoLimit) (hg : s₁.gens = #[])
    (ha : s₁.heap.get? a = some { cls := .type "list", data := .seq vs.toArray }) (hi : IntsAre vs ns) (hl : ns.length ≤ sizeLine) (hr : Room k callerA)
    (F : ∀ base : Heap, K.In base → base.Ns mainGlobals mg → FnOk P w K mg base CX k fa fd [x] sp) (hbind : ∀ (s : Shared) (u : Value), BindsTo s fd ⟨[u], []⟩ [(x, u)])
    (hsp : ∀ H : Hp, Only H → SqL K H a (ns.map V.int) → sp [.ref a] H (fun v _ => v = .bl true) fun _ _ _ => False)
    (hCX : ∀ H e s', CX [] H s₁ (fun _ _ _ => False) e s' → False) :
    codeAny (model P w) callerA (.call (.ref fa) ⟨[.ref a], []⟩) (fun r s' => r = .ok (.ret (.bool true)) ∧ OldK s₁.heap s'.heap ∧ s'.os = s₁.os ∧ AllBare s'.gens) s₁ := by
  have rv := vals_ints hi
  have lenV := hi.length
  -- from an abstract heap in which nothing but the script may be tracked
  have core : ∀ H : Hp, Only H → SqL K H a (ns.map V.int) → HOk P w H s₁.heap → (∀ b, H b ≠ none → b = a) → (H a ≠ none → K.lookup a = none) →
      codeAny (model P w) callerA (.call (.ref fa) ⟨[.ref a], []⟩) (fun r s' => r = .ok (.ret (.bool true)) ∧ OldK s₁.heap s'.heap ∧ s'.os = s₁.os ∧ AllBare s'.gens) s₁ := by
    intro H hO hS hok hA hK
    have base_of : ∀ {b : Addr} {o : Obj}, s₁.heap.get? b = some o → H b = none → (hidT s₁.heap H).get? b = some o := fun e n => hidT_get e n
    have noA : ∀ {b : Addr} {o : Obj} {es : Array DictEntry} {ep : Nat}, s₁.heap.get? b = some o → o.data = .dict es ep → H b = none := fun {b o es ep} e d => by
      cases q : H b with
      | none => rfl
      | some u =>
        have e' : b = a := hA b (by rw [q]; simp)
        subst e'
        rw [ha] at e; cases e
        have d' : Data.seq vs.toArray _ = Data.dict es ep := d
        cases d'
    have nsK : ∀ {b : Addr} {m : Str → Option Value}, s₁.heap.Ns b m → (hidT s₁.heap H).Ns b m := fun {b m} ⟨o, es, ep, e, d, r⟩ => ⟨o, es, ep, base_of e (noA e d), d, r⟩
    have hKb : K.In (hidT s₁.heap H) := fun b o e => base_of (KX b o e) (by
      cases q : H b with
      | none => rfl
      | some u =>
        have e' : b = a := hA b (by rw [q]; simp)
        subst e'
        rw [hK (by rw [q]; simp)] at e; cases e)
    have hM : Mod K mg (hidT s₁.heap H) := ⟨hKb, nsK hns, ⟨mb, nsK hb, hbb⟩, let ⟨mc, h1, h2⟩ := hlim; ⟨mc, nsK h1, h2⟩⟩
    have e0 : Env0 P w K mg (hidT s₁.heap H) callerA [] s₁ H := ⟨rfl, hM, fun b o e => of_hidT e, Nat.le_of_eq (hidT_size _ _), trivial, fun b hb => absurd (show b ∈ ([] : List Addr) from hb) (by simp), hok, .of_eq hg⟩
    refine codeAny_mono ((F _ hKb (nsK hns)).run callerA [] s₁ H ⟨[.ref a], []⟩ [.ref a] [.ref a] _ _ hr e0 (hbind s₁ (.ref a)) (.cons rfl .nil) (hsp H hO hS)) fun r s' h => ?_
    cases r with
    | error e => exact (hCX H e s' h).elim
    | ok fl =>
      cases fl with
      | next => exact False.elim h
      | brk => exact False.elim h
      | cont => exact False.elim h
      | ret u =>
        obtain ⟨v, H', os, bare, un, hok', r', q⟩ := h
        have q' : v = .bl true := q
        subst q'
        obtain rfl : u = Value.bool true := r'
        refine ⟨rfl, OldK.of_keep fun b o e => ?_, os, bare⟩
        cases q : H b with
        | none => exact un.keep b o e q (by intro z; exact absurd (show b ∈ ([] : List Addr) from z) (by simp)) (by simp)
        | some u =>
          rcases hO b with z | ⟨ob, xs, z⟩
          · rw [q] at z; cases z
          · have z2 := un.frzs b ob _ z
            obtain ⟨e1, _⟩ := hok b _ z
            obtain ⟨e2, _⟩ := hok' b _ z2
            rw [e] at e1; cases e1
            exact e2
  cases hk : K.lookup a with
  | some o =>
    -- the script is one of the module's own objects
    have e := KX a o hk
    rw [ha] at e
    cases e
    refine core (fun _ => none) (fun _ => .inl rfl) (.inr ⟨_, vs.toArray, _, hk, rfl, rfl, rfl, by rw [List.size_toArray, lenV]; exact hl, by simpa using rv⟩) (fun b u z => by have z' : (none : Option HO) = some u := z; cases z') (fun b z => absurd rfl z) fun z => absurd rfl z
  | none =>
    refine core (fun b => if b = a then some (.frz { cls := .type "list", data := .seq vs.toArray } (.lst (ns.map V.int))) else none) (fun b => ?_) (.inl (.inr ⟨{ cls := .type "list", data := .seq vs.toArray }, if_pos rfl⟩)) (fun b u z => ?_) (fun b z => ?_) fun _ => hk
    · by_cases hb : b = a
      · exact .inr ⟨_, _, if_pos hb⟩
      · exact .inl (if_neg hb)
    · by_cases hb : b = a
      · have z' := (if_pos hb).symm.trans z
        cases z'
        subst hb
        exact ⟨ha, by rw [List.length_map]; exact hl, vs, _, rv, ha⟩
      · have z' := (if_neg hb).symm.trans z
        cases z'
    · by_cases hb : b = a
      · exact hb
      · exact absurd (if_neg hb) z
end L2
namespace L2
open PySem PySem.Spec PyProof.Rows
abbrev KOf {K : PySem.W.Frag} {h : Heap} (_ : K.In h) : PySem.W.Frag := K
/-- the goal that k_head leaves (case hc), from the law's promise. F gives the function object fd (K's own) once, then the promise over every base -/
theorem walk_of {l : PySem.W.OpenLaw} {n k : Nat} {q : Program} {loose : List Str} {XP : (Str → Option Value) → Heap → Prop} {YP : World → Heap → Prop} {d : DefRec} {K : Params → PySem.W.Frag} {CX : World → CXT} {sp : World → Sp} {x : Str}
    (hn : l.most = some n) (hn2 : n ≤ sizeLine) (hdf : d.params.defaults = []) (hr : Room k callerA)
    (hY : ∀ (w : World) (h : Heap), YP w h → (K w.params).In h)
    (F : ∀ (w : World) (mg : Str → Option Value) (fa : Addr) (h : Heap), (K w.params).In h → h.Ns mainGlobals mg → mg d.name = some (.ref fa) →
      ∃ fd : FuncData, (∀ (s : Shared) (u : Value), BindsTo s fd ⟨[u], []⟩ [(x, u)]) ∧
        ∀ base : Heap, (K w.params).In base → base.Ns mainGlobals mg → FnOk l.prog w (K w.params) mg base (CX w) k fa fd [x] (sp w))
    (hsp : ∀ (w : World) (H : Hp) (a : Addr) (ns : List Int), ns.length ≤ n → Only H → SqL (K w.params) H a (ns.map V.int) → sp w [.ref a] H (fun v _ => v = .bl true) fun _ _ _ => False)
    (hCX : ∀ (w : World) (H : Hp) (s : Shared) (e : Value) (s' : Shared), CX w [] H s (fun _ _ _ => False) e s' → False) :
    PySem.W.WalkO q loose XP YP l.row.toRowW d [] (fun f vs => PySem.call f vs) := by
  refine Att.attach_call hn hdf fun w s₀ s₁ mg mb fa o pm cd doc a vs ns G Y ho hd hcd hmg hobj hints hlen hg => ?_
  have KX := hY w _ Y
  obtain ⟨fd, hb, hF⟩ := F w mg fa _ KX G.T.g hmg
  exact law_call KX G.T.g G.T.b G.T.builtins G.T.nolimit hg hobj hints (Nat.le_trans hlen hn2) hr hF hb (fun H hO hS => hsp w H a ns hlen hO hS) fun H e s' => hCX w H s₁ e s'
end L2
/- THE LAST THEOREM (shape; LID, My.* are yours):
   My.Adr: a structure of the addresses that your layer names (classes, functions); My.Txt K t: a structure (Prop) of the equations over K;
   My.txt_mk : {K} {implicit addresses ..} (e1 : nsIn K mainGlobals "law" = some (some (.ref f))) (e2 : K.lookup f = some ⟨oc, od, .func (fnOf "law" "law" params body scope dV kV doc pm an cdv ct), sl⟩) (e3 : codeIn K cdv "law" = true) .. : ∃ t, My.Txt K t

set_option maxRecDepth 100000 in
set_option maxHeartbeats 0 in
theorem PySem.Challenge.cw_LID_holds : PySem.Challenge.rw_LID.Holds := by
  w_on; o_law; k_head; (case hw => w_witness2)
  k_fill
  refine L2.walk_of (l := PySem.Challenge.rw_LID) (n := 63) (k := 40) (x := "script") (CX := fun w => ..) (sp := fun _ => My.sp_law) rfl (by decide) rfl ⟨rfl, by decide, by decide⟩ (fun w h Y => PySem.W.kIn_of Y) ?F ?S ?C
  case F =>
    intro w mg fa h KX G hmg
    have T : ∃ t, My.Txt (L2.KOf KX) t := by
      dsimp only [L2.KOf]                          -- K must stand as «<heap const> w.params» for k_is
      refine' My.txt_mk ?e1 ?e2 ?e3 ..
      (case e1 => PySem.W.k_is)                    -- in the order: a name -> its address -> its object -> its parts
      (case e2 => PySem.W.k_is)
      ..
    obtain ⟨t, T⟩ := T
    have e0 := hmg.symm.trans (PySem.W.mg_of KX G T.law)
    cases e0                                       -- fa is the law's own address
    exact ⟨_, fun s u => .of_eq rfl, fun base kb nb => My.law_fn T kb nb⟩     -- if «.of_eq rfl» comes too early: refine' ⟨_, ?b, fun base kb nb => My.law_fn T kb nb⟩; exact fun s u => .of_eq rfl
  case S => exact fun w H a ns hl hO hS => ..
  case C => exact ..
(the tactic k_is has no namespace: write k_is) -/
/-! SHORT WORDS over the layer: a def of the text, its body, what a loop and a test want. -/
namespace L2
open PySem PySem.Spec PyProof.Rows
/-! ### the text by places -/
/-- the j-th statement of a class's body -/
def inClass (s : Stmt) (j : Nat) : Stmt := match s with
  | .ClassDef _ _ _ body _ _ _ _ _ _ _ => body.getD j (.Pass ⟨0, 0, 0, 0⟩)
  | _ => .Pass ⟨0, 0, 0, 0⟩
def defArgs (s : Stmt) : Arguments := match s with
  | .FunctionDef _ a _ _ _ _ _ _ _ _ => a
  | _ => { posonlyargs := [], args := [], vararg := none, kwonlyargs := [], kw_defaults := [], kwarg := none, defaults := [] }
def defBody (s : Stmt) : List Stmt := match s with
  | .FunctionDef _ _ b _ _ _ _ _ _ _ => b
  | _ => []
def defScope (s : Stmt) : Scope := match s with
  | .FunctionDef _ _ _ _ _ _ sc _ _ _ => sc
  | _ => { kind := .function, names := [], isGenerator := false, isCoroutine := false }
/-! ### no exception leaves a def -/
abbrev CX0 : CXT := fun _ _ _ _ _ _ => False
abbrev E0 : XK := fun _ _ _ => False
theorem pass0 {X : Cx} : Passes CX0 X E0 := fun _ _ _ _ _ _ _ h => h.elim
/-! ### a def (or method) of the text as it stands behind the top -/
structure Fun (K : PySem.W.Frag) (x qual : Str) (st : Stmt) (f : Addr) (fd : FuncData) : Prop where
  ex : ∃ (oc : Value) (od : Option Addr) (kV doc pm : Value) (an : Option Addr) (cdv ct : Value) (osl : Array (Option Value)),
    fd = PySem.W.fnOf x qual (defArgs st) (defBody st) (defScope st) .none kV doc pm an cdv ct ∧ K.lookup f = some ⟨oc, od, .func fd, osl⟩ ∧ PySem.W.codeIn K cdv qual = true
  kp : PySem.W.keepIn K (.ref f) = true
section
variable {P : Program} {w : World} {K : PySem.W.Frag} {mg : Str → Option Value} {base : Heap}
/-- THE RULE for a def: its body as a term of rules, and the reading of that term -/
theorem Fun.ok {x qual : Str} {st : Stmt} {f : Addr} {fd : FuncData} {N ps : List Str} {k : Nat} {sp : Sp} (F : Fun K x qual st f fd) (S : FnScope N ps (defScope st)) (len : ∀ vs H Q E, sp vs H Q E → vs.length = ps.length)
    (hbody : ∀ (cdv : Value) (A : Around) (outer : List Env) (s : Shared) (H : Hp) (vs : List V) (Q : VK) (E : XK), Room k (A.deeper (envOfC qual (defScope st) s.heap.objs.size f cdv)) → sp vs H Q E →
      ∃ t, PSs (cxOf CX0 P w K mg base N qual (defScope st) f cdv A outer s H E).nox (defBody st) t ∧ t { nx := fun _ H' => Q .non H', rt := Q } (start N vs) H) : FnOk P w K mg base CX0 (k + 1) f fd ps sp := by
  obtain ⟨oc, od, kV, doc, pm, an, cdv, ct, osl, rfl, lk, hcd⟩ := F.ex
  refine fn_of lk hcd S len fun A outer s H vs Q E hr hsp => ?_
  obtain ⟨t, h, q⟩ := hbody cdv A outer s H vs Q E hr hsp
  exact ⟨t, h.nox, q⟩
/-- how its arguments bind (no defaults): h is «fun _ _ _ _ _ _ us hl => match us, hl with | [_, _], _ => rfl», one _ a parameter -/
theorem Fun.binds {x qual : Str} {st : Stmt} {f : Addr} {fd : FuncData} {ps : List Str} (F : Fun K x qual st f fd)
    (h : ∀ (kV doc pm : Value) (an : Option Addr) (cdv ct : Value) (us : List Value), us.length = ps.length → bindArgs (PySem.W.fnOf x qual (defArgs st) (defBody st) (defScope st) .none kV doc pm an cdv ct) ⟨us, []⟩ = pure (ps.zip us)) : Binds K fd ps [] := by
  obtain ⟨oc, od, kV, doc, pm, an, cdv, ct, osl, rfl, lk, hcd⟩ := F.ex
  exact .all (h kV doc pm an cdv ct)
theorem fun_mk {x qual : Str} {st : Stmt} {f : Addr} {oc : Value} {od an : Option Addr} {osl : Array (Option Value)} {kV doc pm cdv ct : Value} (l : K.lookup f = some ⟨oc, od, .func (PySem.W.fnOf x qual (defArgs st) (defBody st) (defScope st) .none kV doc pm an cdv ct), osl⟩)
    (c : PySem.W.codeIn K cdv qual = true) (k : PySem.W.keepIn K (.ref f) = true) : Fun K x qual st f (PySem.W.fnOf x qual (defArgs st) (defBody st) (defScope st) .none kV doc pm an cdv ct) := ⟨⟨oc, od, kV, doc, pm, an, cdv, ct, osl, rfl, l, c⟩, k⟩
end
theorem small1000 {n : Nat} (h : n ≤ 1000) : n < sizeLine := Nat.lt_of_le_of_lt h (by decide)
/-! ### expressions in short: the name that stands in the i-th slot -/
section
variable {X : Cx}
theorem pv (i : Nat) {x : Str} {pos : Pos} (hN : X.N[i]? = some x := by rfl) (hv : Vis X.env.scope x := by first | exact Or.inl rfl | exact Or.inr (Or.inl rfl) | exact Or.inr (Or.inr rfl)) (hd : (x == ("__debug__" : Str)) = false := by decide)
    (hcd : (x == ("__classdict__" : Str)) = false := by decide) : PE X (.Name x pos) (tVar i) := pe_var hN hv hd hcd
end
theorem iteT {A B : Prop} (h : A) : if true = true then A else B := by
  rw [if_pos rfl]
  exact h
theorem ite2 {c A B : Prop} [Decidable c] (h1 : c → A) (h2 : ¬ c → B) : if c then A else B := by
  by_cases h : c
  · rw [if_pos h]
    exact h1 h
  · rw [if_neg h]
    exact h2 h
/-! ### heaps -/
/-- all that was tracked is as it was -/
def Same (H H' : Hp) : Prop := ∀ b o, H b = some o → H' b = some o
theorem Same.refl (H : Hp) : Same H H := fun _ _ h => h
theorem Same.trans {H H1 H2 : Hp} (a : Same H H1) (b : Same H1 H2) : Same H H2 := fun c o h => b c o (a c o h)
theorem Same.free {H H' : Hp} (e : Same H H') {l : Addr} (h : H' l = Option.none) : H l = Option.none := by
  cases q : H l with
  | none => rfl
  | some o =>
    rw [e l o q] at h
    cases h
theorem Same.seq {K : PySem.W.Frag} {H H' : Hp} {a : Addr} {xs : List V} (e : Same H H') (h : SqL K H a xs) : SqL K H' a xs := by
  rcases h with (h | ⟨o, h⟩) | h
  · exact .inl (.inl (e _ _ h))
  · exact .inl (.inr ⟨o, e _ _ h⟩)
  · exact .inr h
end L2
namespace L2
open PySem PySem.Spec PyProof.Rows
section
variable {X : Cx}
end
/-! ### a dict's pairs: keys that differ -/
section
variable {κ : Type} [DecidableEq κ]
end
end L2
set_option Elab.async false
set_option linter.all false
set_option maxRecDepth 100000
set_option maxHeartbeats 4000000
/-! A LIST COMPREHENSION over the hand layer: its block is a context of its own, the names around it are read through their cells. -/
namespace L2
open PySem PySem.Spec PyProof.Rows
/-- the cells that a block takes from the frame around it -/
def clos (cells : List (Str × Addr)) : List (Str × NameKind) → List (Str × Addr) → List (Str × Addr)
  | [], acc => acc
  | (n, k) :: r, acc => clos cells r (if k = .free then (n, (cells.lookup n).getD 0) :: acc else acc)
theorem clos_sub {cells : List (Str × Addr)} : ∀ {names : List (Str × NameKind)} {acc : List (Str × Addr)}, (∀ y ∈ names, y.2 = .free → ∃ c, cells.lookup y.1 = some c) →
    (∀ x c, acc.lookup x = some c → cells.lookup x = some c) → ∀ x c, (clos cells names acc).lookup x = some c → cells.lookup x = some c
  | [], _, _, h2, x, c, e => h2 x c e
  | (n, k) :: r, acc, h1, h2, x, c, e => by
    refine clos_sub (names := r) (fun y hy => h1 y (List.mem_cons_of_mem _ hy)) ?_ x c e
    intro x c e
    by_cases hk : k = .free
    · subst hk
      rw [if_pos rfl] at e
      obtain ⟨d, hd⟩ := h1 (n, .free) List.mem_cons_self rfl
      rw [hd, Option.getD_some, List.lookup_cons] at e
      cases hx : x == n with
      | true =>
        rw [hx] at e
        have e' : d = c := Option.some.inj e
        rw [eq_of_beq hx, hd, e']
      | false =>
        rw [hx] at e
        exact h2 x c e
    · rw [if_neg hk] at e
      exact h2 x c e
theorem clos_has {cells : List (Str × Addr)} : ∀ {names : List (Str × NameKind)} {acc : List (Str × Addr)} {x : Str}, ((∃ c, acc.lookup x = some c) ∨ (x, NameKind.free) ∈ names) → ∃ c, (clos cells names acc).lookup x = some c
  | [], _, x, h => by
    rcases h with h | h
    · exact h
    · exact absurd h (by simp)
  | (n, k) :: r, acc, x, h => by
    refine clos_has (names := r) (x := x) ?_
    by_cases hr : (x, NameKind.free) ∈ r
    · exact .inr hr
    refine .inl ?_
    by_cases hk : k = .free
    · subst hk
      rw [if_pos rfl, List.lookup_cons]
      cases hx : x == n with
      | true => exact ⟨_, rfl⟩
      | false =>
        rcases h with h | h
        · exact h
        · rcases List.mem_cons.mp h with q | q
          · have : x = n := congrArg Prod.fst q
            rw [this, beq_self_eq_true] at hx
            cases hx
          · exact absurd q hr
    · rw [if_neg hk]
      rcases h with h | h
      · exact h
      · rcases List.mem_cons.mp h with q | q
        · exact absurd (congrArg Prod.snd q).symm hk
        · exact absurd q hr
theorem closureFor_clos {scope : Scope} {env : Env} (h : ∀ y ∈ scope.names, y.2 = .free → ∃ c, env.cells.lookup y.1 = some c) : closureFor scope env = pure (clos env.cells scope.names []) := by
  have go : ∀ (names : List (Str × NameKind)) (acc : List (Str × Addr)), (∀ y ∈ names, y.2 = .free → ∃ c, env.cells.lookup y.1 = some c) →
      (forIn names acc fun (x : Str × NameKind) (r : List (Str × Addr)) => (match x with
        | (name, kind) => if (kind == NameKind.free) = true then (do let a ← cellOf env name; pure (ForInStep.yield ((name, a) :: r))) else pure (ForInStep.yield r) : Sem (ForInStep (List (Str × Addr))))) = (pure (clos env.cells names acc) : Sem _) := by
    intro names
    induction names with
    | nil => intro acc _; rfl
    | cons y r ih =>
      intro acc hy
      obtain ⟨n, k⟩ := y
      rw [List.forIn_cons]
      by_cases hk : k = .free
      · subst hk
        obtain ⟨c, hc⟩ := hy (n, .free) List.mem_cons_self rfl
        have e1 : cellOf env n = pure c := by unfold cellOf; rw [hc]
        show ((if (NameKind.free == NameKind.free) = true then (do let a ← cellOf env n; pure (ForInStep.yield ((n, a) :: acc))) else pure (ForInStep.yield acc)) >>= _) = _
        rw [if_pos (by decide), e1]
        have e2 : clos env.cells ((n, .free) :: r) acc = clos env.cells r ((n, c) :: acc) := by
          show clos env.cells r (if NameKind.free = NameKind.free then (n, (env.cells.lookup n).getD 0) :: acc else acc) = _
          rw [if_pos rfl, hc, Option.getD_some]
        rw [e2]
        exact ih ((n, c) :: acc) fun y hy' => hy y (List.mem_cons_of_mem _ hy')
      · have hb : (k == NameKind.free) = false := by simpa using hk
        show ((if (k == NameKind.free) = true then (do let a ← cellOf env n; pure (ForInStep.yield ((n, a) :: acc))) else pure (ForInStep.yield acc)) >>= _) = _
        rw [if_neg (by rw [hb]; exact Bool.false_ne_true)]
        have e2 : clos env.cells ((n, k) :: r) acc = clos env.cells r acc := by
          show clos env.cells r (if k = NameKind.free then (n, (env.cells.lookup n).getD 0) :: acc else acc) = _
          rw [if_neg hk]
        rw [e2]
        exact ih acc fun y hy' => hy y (List.mem_cons_of_mem _ hy')
  simp only [closureFor]
  have := go scope.names [] h
  rw [this]
  rfl
theorem relabel_free {env : Env} : ∀ {names : List (Str × NameKind)} {x : Str} {k' : NameKind}, (∀ y ∈ names, y.2 ≠ .cell) → (k' = .cell ∨ k' = .free) →
    (names.map fun (n, k) => if (k == NameKind.free && env.scope.kind == .function && env.kindOf n == some .cell) then (n, NameKind.cell) else (n, k)).lookup x = some k' → (x, NameKind.free) ∈ names
  | [], _, _, _, _, h => by simp at h
  | (n, k) :: r, x, k', hc, hk, h => by
    have h : List.lookup x ((if (k == NameKind.free && env.scope.kind == .function && env.kindOf n == some .cell) = true then (n, NameKind.cell) else (n, k)) :: _) = _ := h
    have ih := @relabel_free env r x k' (fun y hy => hc y (List.mem_cons_of_mem _ hy)) hk
    have nc : k ≠ .cell := hc (n, k) List.mem_cons_self
    by_cases hb : (k == NameKind.free && env.scope.kind == .function && env.kindOf n == some .cell) = true
    · rw [if_pos hb, List.lookup_cons] at h
      have kf : k = .free := by
        simp only [Bool.and_eq_true] at hb
        exact eq_of_beq hb.1.1
      cases hx : x == n with
      | true => rw [eq_of_beq hx, kf]; exact List.mem_cons_self
      | false => rw [hx] at h; exact List.mem_cons_of_mem _ (ih h)
    · rw [if_neg hb, List.lookup_cons] at h
      cases hx : x == n with
      | true =>
        rw [hx] at h
        have e : k = k' := Option.some.inj h
        rcases hk with q | q
        · exact absurd (e.trans q) nc
        · rw [eq_of_beq hx, e, q]; exact List.mem_cons_self
      | false => rw [hx] at h; exact List.mem_cons_of_mem _ (ih h)
/-- the context of a comprehension's block -/
def Cx.block (X : Cx) (N' : List Str) (scope : Scope) (C : Addr) (s₀ : Shared) (H₀ : Hp) (ex : List Addr) : Cx :=
  { X with N := N', s₀ := s₀, H₀ := H₀, env := compEnvC scope (clos X.env.cells scope.names []) C X.env, outer := X.stack, ex := ex, fn := fun _ => false, xe := fun _ _ => False }
/-- what a block's names must be: tn its own, M the names around it (those that it hides stand as others that it has not) -/
structure BlkOk (X : Cx) (tn M : List Str) (scope : Scope) : Prop where
  kind : scope.kind = .function
  nocell : ∀ y ∈ scope.names, y.2 ≠ .cell
  own : ∀ y ∈ scope.names, y.2 = .local → scope.names.lookup y.1 = some .local
  free : ∀ y ∈ scope.names, y.2 = .free → X.env.kindOf y.1 = some .cell ∨ X.env.kindOf y.1 = some .free
  len : M.length = X.N.length
  same : ∀ (i : Nat) (x : Str), M[i]? = some x → (X.N[i]? = some x ∧ scope.names.lookup x ≠ some .local) ∨ scope.names.lookup x = none
def blkOk (kindOf : Str → Option NameKind) (N M : List Str) (scope : Scope) : Bool :=
  scope.names.all (fun y => decide (y.2 ≠ .cell) && (decide (y.2 ≠ .local) || decide (scope.names.lookup y.1 = some .local)) && (decide (y.2 ≠ .free) || decide (kindOf y.1 = some .cell) || decide (kindOf y.1 = some .free)))
  && decide (M.length = N.length) && (M.zip N).all (fun p => (decide (p.1 = p.2) && decide (scope.names.lookup p.1 ≠ some .local)) || decide (scope.names.lookup p.1 = none))
theorem BlkOk.of {X : Cx} {tn M : List Str} {scope : Scope} (hk : scope.kind = .function) (h : blkOk X.env.kindOf X.N M scope = true) : BlkOk X tn M scope := by
  unfold blkOk at h
  rw [Bool.and_eq_true, Bool.and_eq_true] at h
  obtain ⟨⟨h1, h2⟩, h3⟩ := h
  have h1 := List.all_eq_true.mp h1
  have h3 := List.all_eq_true.mp h3
  have h2 := of_decide_eq_true h2
  refine ⟨hk, fun y hy => ?_, fun y hy hl => ?_, fun y hy hf => ?_, h2, fun i x e => ?_⟩
  · have q := h1 y hy
    simp only [Bool.and_eq_true] at q
    exact of_decide_eq_true q.1.1
  · have q := h1 y hy
    simp only [Bool.and_eq_true, Bool.or_eq_true] at q
    rcases q.1.2 with z | z
    · exact absurd hl (of_decide_eq_true z)
    · exact of_decide_eq_true z
  · have q := h1 y hy
    simp only [Bool.and_eq_true, Bool.or_eq_true] at q
    rcases q.2 with (z | z) | z
    · exact absurd hf (of_decide_eq_true z)
    · exact .inl (of_decide_eq_true z)
    · exact .inr (of_decide_eq_true z)
  · have hi : i < M.length := (List.getElem?_eq_some_iff.mp e).1
    have hi' : i < X.N.length := by omega
    have hz : (M.zip X.N)[i]? = some (x, X.N[i]) := by
      rw [List.getElem?_zip_eq_some]
      exact ⟨e, by simp [hi']⟩
    have q := h3 _ (List.mem_of_getElem? hz)
    simp only [Bool.or_eq_true, Bool.and_eq_true] at q
    rcases q with ⟨a, b⟩ | a
    · have a : x = X.N[i] := of_decide_eq_true a
      exact .inl ⟨by rw [List.getElem?_eq_getElem hi', ← a], of_decide_eq_true b⟩
    · exact .inr (of_decide_eq_true a)
section
variable {X : Cx} {pins : List (Addr × Obj)} {σ : St} {H : Hp} {s : Shared} {tn M : List Str} {scope : Scope}
theorem Inv.freeCells (I : Inv X pins σ H s) (B : BlkOk X tn M scope) : ∀ y ∈ scope.names, y.2 = .free → ∃ c, X.env.cells.lookup y.1 = some c := fun y hy hf => I.ok.has y.1 (B.free y hy hf)
/-- the block's begin -/
theorem block_start {fp : List Addr} {h₁ : Heap} {C D : Addr} {tk : Nat} {oD : Obj} (I : Inv X pins σ H s) (B : BlkOk X tn M scope) (hf : ∀ b ∈ fp, FpOk X pins H b) (hfl : ∀ b ∈ fp, b < s.heap.objs.size)
    (old : ∀ b o, s.heap.get? b = some o → h₁.get? b = some o) (hC : s.heap.objs.size ≤ C) (hD : s.heap.objs.size ≤ D) (hDC : D ≠ C) (ns : ∃ m, h₁.Ns C m) (eD : h₁.get? D = some oD) (nD : ∀ v, oD.data ≠ .cell v) :
    Inv (X.block (tn ++ M) scope C s H fp) (pins ++ [(D, oD)]) (List.replicate tn.length none ++ σ) H { s with heap := h₁, toks := tk } := by
  have fr := I.freeCells B
  have sub : ∀ x c, (clos X.env.cells scope.names []).lookup x = some c → X.env.cells.lookup x = some c := clos_sub fr (fun x c e => by simp at e)
  have cellLt : ∀ x c, X.env.cells.lookup x = some c → c < s.heap.objs.size := fun x c e => let ⟨v, q⟩ := I.cell x c e; q.lt
  refine ⟨⟨I.ok.mod, B.kind, I.ok.glob, I.ok.blt, hC, fun x y c h1 h2 => I.ok.inj x y c (sub x c h1) (sub y c h2), fun x hx => ?_, fun x c h => (by cases h), I.ok.hd, I.ok.frames, .inl rfl, fun b hb => ⟨?_, fun x c e => (hf b hb).2.2.2.2.1 x c (sub x c e)⟩,
      I.bs, Nat.le_trans I.ok.bsz I.sz, fun b o e hb => ?_, fun b hb hz => ?_, I.stack, I.stkFree⟩,
    rfl, I.bare, Un.kept old, ?_, fun x c e => ?_, I.hok.fresh hC, fun x c e => I.freeC x c (sub x c e), fun p hp => ?_, I.hok.kept old, ?_⟩
  · -- has
    have hx : (relabel scope X.env).names.lookup x = some .cell ∨ (relabel scope X.env).names.lookup x = some .free := hx
    have hm : (x, NameKind.free) ∈ scope.names := by
      rcases hx with q | q
      · exact relabel_free B.nocell (.inl rfl) q
      · exact relabel_free B.nocell (.inr rfl) q
    exact clos_has (.inr hm)
  · exact Nat.ne_of_lt (Nat.lt_of_lt_of_le (hfl b hb) hC)
  · -- noex
    rcases (hf b hb).2.2.2.1 with z | z
    · exact I.ok.noex b o e z
    · exact absurd (Nat.lt_of_lt_of_le (Heap.lt_size e) (Nat.le_trans I.ok.bsz z)) (Nat.lt_irrefl _)
  · -- exfs
    rcases List.mem_cons.mp (I.stkSub b hz) with q | q
    · exact (hf b hb).2.1 q
    · exact (hf b hb).2.2.1 q
  · -- loc
    obtain ⟨m', hn⟩ := ns
    refine ⟨m', hn, fun i x v e1 e2 e3 => ?_⟩
    have e1 : (tn ++ M)[i]? = some x := e1
    by_cases hi : i < tn.length
    · rw [List.getElem?_append_left (by simpa using hi), List.getElem?_replicate, if_pos hi] at e2
      cases e2
    · rw [List.getElem?_append_right (by simpa using Nat.not_lt.mp hi), List.length_replicate] at e2
      rw [List.getElem?_append_right (Nat.not_lt.mp hi)] at e1
      have e3 : (relabel scope X.env).names.lookup x = some .local ∨ (relabel scope X.env).names.lookup x = some .cell ∨ (relabel scope X.env).names.lookup x = some .free := e3
      have hvis : ((relabel scope X.env).names.lookup x = some .cell ∨ (relabel scope X.env).names.lookup x = some .free) ∧ (x, NameKind.free) ∈ scope.names ∧ X.N[i - tn.length]? = some x := by
        have lk : ∀ k, (relabel scope X.env).names.lookup x = some k → scope.names.lookup x ≠ none := by
          intro k q z
          have : ∀ (names : List (Str × NameKind)), names.lookup x = none → (names.map fun (n, k) => if (k == NameKind.free && X.env.scope.kind == .function && X.env.kindOf n == some .cell) then (n, NameKind.cell) else (n, k)).lookup x = none := by
            intro names
            induction names with
            | nil => intro _; rfl
            | cons y r ih =>
              obtain ⟨n, k⟩ := y
              intro hz
              rw [List.lookup_cons] at hz
              show List.lookup x ((if (k == NameKind.free && X.env.scope.kind == .function && X.env.kindOf n == some .cell) = true then (n, NameKind.cell) else (n, k)) :: _) = none
              cases hx : x == n with
              | true => rw [hx] at hz; cases hz
              | false =>
                rw [hx] at hz
                split <;> (rw [List.lookup_cons, hx]; exact ih hz)
          have q' : (relabel scope X.env).names.lookup x = none := this scope.names z
          rw [q] at q'
          cases q'
        rcases B.same _ x e1 with ⟨a, b⟩ | b
        · rcases e3 with q | q | q
          · exfalso
            -- local in the relabelled table is local in the block's own
            have : ∀ (names : List (Str × NameKind)), (names.map fun (n, k) => if (k == NameKind.free && X.env.scope.kind == .function && X.env.kindOf n == some .cell) then (n, NameKind.cell) else (n, k)).lookup x = some .local → names.lookup x = some .local := by
              intro names
              induction names with
              | nil => intro hz; simp at hz
              | cons y r ih =>
                obtain ⟨n, k⟩ := y
                intro hz
                have hz : List.lookup x ((if (k == NameKind.free && X.env.scope.kind == .function && X.env.kindOf n == some .cell) = true then (n, NameKind.cell) else (n, k)) :: _) = some .local := hz
                rw [List.lookup_cons]
                cases hx : x == n with
                | true =>
                  split at hz
                  · rw [List.lookup_cons, hx] at hz; cases hz
                  · rw [List.lookup_cons, hx] at hz; exact hz
                | false =>
                  split at hz <;> (rw [List.lookup_cons, hx] at hz; exact ih hz)
            exact b (this _ q)
          · exact ⟨.inl q, relabel_free B.nocell (.inl rfl) q, a⟩
          · exact ⟨.inr q, relabel_free B.nocell (.inr rfl) q, a⟩
        · exfalso
          rcases e3 with q | q | q <;> exact lk _ q b
      obtain ⟨hk, hm, hN⟩ := hvis
      obtain ⟨m, hn0, hl⟩ := I.loc
      have ko := B.free (x, .free) hm rfl
      obtain ⟨u, r, l⟩ := hl _ x v hN e2 (.inr ko)
      refine ⟨u, r, .inr ⟨hk, ?_⟩⟩
      rcases l with ⟨z, _⟩ | ⟨_, c, ec, hc⟩
      · have z : X.env.kindOf x = some .local := z
        rcases ko with q | q
        · have q : X.env.kindOf x = some .cell := q
          rw [z] at q; cases q
        · have q : X.env.kindOf x = some .free := q
          rw [z] at q; cases q
      · obtain ⟨c', ec'⟩ := clos_has (cells := X.env.cells) (names := scope.names) (acc := []) (.inr hm)
        have : X.env.cells.lookup x = some c' := sub x c' ec'
        rw [ec] at this
        cases this
        obtain ⟨o, ho, hd⟩ := hc
        exact ⟨c, ec', o, old _ _ ho, hd⟩
  · obtain ⟨v, o, ho, hd⟩ := I.cell x c (sub x c e)
    exact ⟨v, o, old _ _ ho, hd⟩
  · rcases List.mem_append.mp hp with q | q
    · obtain ⟨a, b, c, d, e⟩ := I.pin p (List.mem_append_left _ q)
      refine ⟨old _ _ a, b, Nat.ne_of_lt (Nat.lt_of_lt_of_le (Heap.lt_size a) hC), fun z => ?_, e⟩
      rcases List.mem_cons.mp (I.stkSub _ z) with q | q
      · exact c q
      · exact d q
    · rcases List.mem_append.mp q with q | q
      · obtain ⟨a, b, c, d, e⟩ := I.pin p (List.mem_append_right _ q)
        refine ⟨old _ _ a, b, Nat.ne_of_lt (Nat.lt_of_lt_of_le (Heap.lt_size a) hC), fun z => ?_, e⟩
        rcases List.mem_cons.mp (I.stkSub _ z) with q | q
        · exact c q
        · exact d q
      · obtain rfl : p = (D, oD) := List.mem_singleton.mp q
        refine ⟨eD, I.hok.fresh hD, hDC, fun z => ?_, nD⟩
        rcases List.mem_cons.mp (I.stkSub _ z) with q | q
        · exact Nat.ne_of_gt (Nat.lt_of_lt_of_le I.lt hD) q
        · exact I.nofs hD q
  · show (List.replicate tn.length none ++ σ).length = (tn ++ M).length
    rw [List.length_append, List.length_append, List.length_replicate, I.len, B.len]
/-- the block's end: what it filled is tracked from here on -/
theorem block_end {N' : List Str} {fp : List Addr} {C D : Addr} {σ' : St} {H' : Hp} {s' : Shared} {us : List Value} {n : Nat} {vs : List V} {ps : List (Addr × Obj)} (I : Inv X pins σ H s)
    (J : Inv (X.block N' scope C s H fp) ps σ' H' s') (hf : ∀ b ∈ fp, FpOk X pins H b) (hD : s.heap.objs.size ≤ D) (eD : s'.heap.get? D = some { cls := .type "list", data := .seq us.toArray n }) (nD : H' D = none)
    (r : Vals vs us) (hz : vs.length ≤ sizeLine) : Inv X pins σ (upd H' D (.lst vs)) s' := by
  have neD : ∀ b o, s.heap.get? b = some o → b ≠ D := fun b o e => Nat.ne_of_lt (Nat.lt_of_lt_of_le (Heap.lt_size e) hD)
  have neT : ∀ b o, H' b = some o → b ≠ D := fun b o e z => by rw [z, nD] at e; cases e
  have u : Un (frs X.stack) fp H H' s.heap s'.heap := J.base
  refine I.call' (ch := fp) J.os ⟨u.keep, u.slot, fun b o e n hx => ?_, u.there, fun b xs e => ?_, fun b o v e => ?_, fun b ps e => ?_⟩ (fun a o e => ?_) J.bare (fun b hb => ⟨(hf b hb).2.2.2.1, (hf b hb).2.1, (hf b hb).2.2.2.2.1, (hf b hb).2.2.2.2.2⟩)
  · rw [upd_ne (neD b o e)]
    exact u.free b o e n hx
  · have q := u.tups b xs e
    rw [upd_ne (neT b _ q)]
    exact q
  · have q := u.frzs b o v e
    rw [upd_ne (neT b _ q)]
    exact q
  · obtain ⟨more, q⟩ := u.tbls b ps e
    exact ⟨more, by rw [upd_ne (neT b _ q)]; exact q⟩
  · by_cases ha : a = D
    · subst ha
      rw [upd_same] at e
      cases e
      exact ⟨hz, us, n, r, eD⟩
    · rw [upd_ne ha] at e
      exact (J.hok a o e).stay (fun b v _ q => q) (fun b q => by rw [upd_ne (neT b _ q)]; exact q) fun b xs q => by rw [upd_ne (neT b _ q)]; exact q
end
/-- the tests of a comprehension -/
def PTs (Y : Cx) (ifs : List Expr) (t : TT) : Prop :=
  ∀ (pins : List (Addr × Obj)) (s : Shared) (σ : St) (H : Hp) (Q : Bool → Hp → Prop), Inv Y pins σ H s → t σ H Q →
    wpAny (model Y.prog Y.w) Y.A (forIn ifs true fun c r => if r = true then do let ok ← isTrue c Y.env (eval c Y.env); pure (ForInStep.yield ok) else pure (ForInStep.yield r)) (TP Y pins σ Q) Y.xe s
def tAll : TT := fun _ H Q => Q true H
theorem pts_nil {Y : Cx} : PTs Y [] tAll := fun _ _ _ H _ I h => wpAny_tests_nil ⟨H, I, h⟩
/-- a comprehension: W the invariant by the turn, a measure, what was gathered -/
def tComp (wi : TI) (m : Nat) (g : TG) (tc : TT) (te : TE) : TE := fun σ H Q => wi σ H fun J H1 =>
  ∃ W : Nat → Nat → List V → St → Hp → Prop, (∃ k, W 0 k [] (List.replicate m none ++ σ) H1) ∧ ∀ i k vs σ H, W i k vs σ H →
    (J.stop i H ∧ ∀ p, H p = none → Q (.ref p) (upd H p (.lst vs))) ∨
    (J.go i H ∧ vs.length < sizeLine ∧ ∃ N : List V → St → Hp → Prop, (∀ vs' σ' H', N vs' σ' H' → ∃ k', k' < k ∧ W (i + 1) k' vs' σ' H') ∧
      ∀ x H', J.yld i H x H' → g x σ H' fun σ2 H2 => tc σ2 H2 fun b H3 => if b = true then te σ2 H3 fun y H4 => N (vs ++ [y]) σ2 H4 else N vs σ2 H3)
section
variable {prog : Program} {w : World} {A : Around} {R : Result → Shared → Prop} {s : Shared}
theorem compLoop_go {elt target iter : Expr} {ifs : List Expr} {scope : Scope} {pos : Pos} {it acc : Value} {env : Env} (I : Nat → Shared → Prop)
    (turn : ∀ n s, I n s → wpAny (model prog w) A (pyNext it) (fun r s₁ => match r with
      | none => R (.ok .next) s₁
      | some v => wpAny (model prog w) A (letOwnedTupleGo target it v) (fun _ s₀ => wpAny (model prog w) A (assign target env v) (fun _ s₂ =>
          wpAny (model prog w) A (forIn ifs true fun c r => if r = true then do let ok ← isTrue c env (eval c env); pure (ForInStep.yield ok) else pure (ForInStep.yield r)) (fun ok s₃ =>
            if ok = true then wpAny (model prog w) A (eval elt env) (fun x s₄ =>
              wpAny (model prog w) A (call (.builtin "list.append") [acc, x]) (fun _ s₅ => ∃ m, m < n ∧ I m s₅) (fun _ _ => False) s₄) (fun _ _ => False) s₃
            else ∃ m, m < n ∧ I m s₃) (fun _ _ => False) s₂) (fun _ _ => False) s₀) (fun _ _ => False) s₁) (fun _ _ => False) s)
    (n : Nat) (h : I n s) : codeAny (model prog w) A (.compLoop (.ListComp elt [⟨target, iter, ifs, 0⟩] scope pos) 0 it acc env) R s := by
  refine codeAny_loop rfl I (fun n s hI => ?_) n h
  show wpAny _ A ((compTurn (.ListComp elt [⟨target, iter, ifs, 0⟩] scope pos) 0 it acc env).onRaise (fun x => do noteFrame x env; theTreesLotGoes x)) _ _ s
  refine wpAny_noted ?_
  rw [compTurn_list]
  refine wpAny_bind (wpAny_standAt (wpAny_bind (wpAny_mono (turn n s hI) (fun r s₁ h₁ => ?_) fun _ _ h' => h'.elim)))
  cases r with
  | none => exact wpAny_pure h₁
  | some v =>
    refine wpAny_bind (wpAny_mono h₁ (fun _ s₀ h₀ => ?_) fun _ _ h' => h'.elim)
    refine wpAny_bind (wpAny_mono h₀ (fun _ s₂ h₂ => wpAny_bind (wpAny_mono h₂ (fun ok s₃ h₃ => ?_) fun _ _ h' => h'.elim)) fun _ _ h' => h'.elim)
    cases ok with
    | false => exact wpAny_pure ⟨rfl, h₃⟩
    | true =>
      exact wpAny_bind (wpAny_bind (wpAny_mono h₃ (fun x s₄ h₄ => wpAny_bind (wpAny_mono h₄ (fun _ s₅ h₅ => wpAny_pure (wpAny_pure ⟨rfl, h₅⟩)) fun _ _ h' => h'.elim)) fun _ _ h' => h'.elim))
end
section
variable {X : Cx} {tn M : List Str} {scope : Scope} {tg iter elt : Expr} {ifs : List Expr} {pos : Pos} {wi : TI} {g : TG} {tc : TT} {te : TE}
abbrev lobj (us : List Value) : Obj := { cls := .type "list", data := .seq us.toArray us.length }
/-- a pinned list that the loop fills -/
theorem Inv.filled {Y : Cx} {pins : List (Addr × Obj)} {σ : St} {H : Hp} {s : Shared} {D : Addr} {us : List Value} {o' : Obj} {h' : Heap} {pl : List (Addr × Obj)} (I : Inv Y (pins ++ [(D, lobj us)] ++ pl) σ H s) (hD : Y.s₀.heap.objs.size ≤ D)
    (hc : ∀ x c, Y.env.cells.lookup x = some c → c ≠ D) (hp : ∀ p ∈ Y.pn ++ pins, p.1 ≠ D) (sb : Heap.SameBut D s.heap h') (e : h'.get? D = some o') (nd : ∀ v, o'.data ≠ .cell v) : Inv Y (pins ++ [(D, o')]) σ H { s with heap := h' } := by
  have pD := I.pin (D, lobj us) (by simp)
  have I1 : Inv Y pins σ H s := I.pins_of fun p hp => I.pin p (by simp [hp])
  have I2 : Inv Y pins σ H { s with heap := h' } := I1.turned (it := D) (t' := s.toks) (fun b o hb q => (sb.2 b hb).trans q) pD.2.1 pD.2.2.1 (.inr hD) hc hp
  refine I2.pins_of fun p hp => ?_
  rcases List.mem_append.mp hp with q | q
  · exact I2.pin p (List.mem_append_right _ q)
  · obtain rfl : p = (D, o') := List.mem_singleton.mp q
    exact ⟨e, pD.2.1, pD.2.2.1, pD.2.2.2.1, nd⟩
/-- what a use of the comprehension's value asks: the list is there, C its frame -/
def CompUse (X : Cx) (pins : List (Addr × Obj)) (σ : St) (Q : VK) (D C : Addr) (s' : Shared) : Prop :=
  ∃ H, Inv X pins σ H s' ∧ Q (.ref D) H ∧ (∃ m, s'.heap.Ns C m) ∧ FpOk X pins H C
theorem comp_run {pins : List (Addr × Obj)} {s : Shared} {σ : St} {H : Hp} {Q : VK} {RR : Value → Addr → Result → Shared → Prop} (hc : X.calm = true) (B : BlkOk X tn M scope) (hi : PI X tg iter wi)
    (hg : ∀ C s₀ H₀ ex, PG (X.block (tn ++ M) scope C s₀ H₀ ex) tg g) (ht : ∀ C s₀ H₀ ex, PTs (X.block (tn ++ M) scope C s₀ H₀ ex) ifs tc) (he : ∀ C s₀ H₀ ex, PE (X.block (tn ++ M) scope C s₀ H₀ ex) elt te)
    (I : Inv X pins σ H s) (h : tComp wi tn.length g tc te σ H Q) (hRR : ∀ D C s', CompUse X pins σ Q D C s' → RR (.ref D) C (.ok .next) s') :
    wpAny (model X.prog X.w) X.A (eval iter X.env) (fun x s₁ => wpAny (model X.prog X.w) X.A (pyIter x) (fun it s₂ => wpAny (model X.prog X.w) X.A (newList []) (fun acc s₃ =>
      wpAny (model X.prog X.w) X.A (newFunctionEnv scope X.env.globals (clos X.env.cells scope.names []) [] X.env.qual none .none (some X.env)) (fun cenv s₄ =>
        codeAny (model X.prog X.w) X.A (.compStart (.ListComp elt [⟨tg, iter, ifs, 0⟩] scope pos) 0 it acc { cenv with scope := relabel scope X.env }) (RR acc cenv.locals) s₄) X.xe s₃) X.xe s₂) X.xe s₁) X.xe s := by
  refine thn (hi pins s σ H _ I h) fun v s1 h1 => thn h1 fun itv s2 h2 => ?_
  obtain ⟨it, fp, tn', J, H2, e, I2, T, st2, f2, W, ⟨m0, w0⟩, turn⟩ := h2
  subst e
  refine wpAny_newObj_type (wpAny_newFunctionEnv B.nocell (by intro y hy; simp at hy) (fun h₁ hns₁ hsb₁ => ?_) B.kind)
  dsimp only at hns₁ hsb₁ ⊢
  generalize hH2 : s2.heap.push { cls := .type "list", dict := none, data := .seq ([] : List Value).toArray } = HH at hns₁ hsb₁ ⊢
  have hC : HH.objs.size = s2.heap.objs.size + 1 := by rw [← hH2, Heap.size_push]
  have hDC : s2.heap.objs.size ≠ HH.objs.size := by rw [hC]; exact Nat.ne_of_lt (Nat.lt_succ_self _)
  have below : ∀ b, b < s2.heap.objs.size → b ≠ HH.objs.size ∧ b ≠ s2.heap.objs.size := fun b hb => ⟨by rw [hC]; exact Nat.ne_of_lt (Nat.lt_succ_of_lt hb), Nat.ne_of_lt hb⟩
  have old : ∀ b o, s2.heap.get? b = some o → h₁.get? b = some o := fun b o e => hsb₁.extBut b o (below b (Heap.lt_size e)).1 (Heap.get?_push_of_some _ (hH2 ▸ Heap.get?_push_of_some _ e))
  have hacc : h₁.get? s2.heap.objs.size = some (lobj []) := hsb₁.extBut _ _ hDC (Heap.get?_push_of_some _ (hH2 ▸ Heap.get?_push_size _ rfl))
  have hfl : ∀ b ∈ fp, b < s2.heap.objs.size := fun b hb => let ⟨o, q, _⟩ := T.obj _ _ st2 b hb; Heap.lt_size q
  have hCle : s2.heap.objs.size ≤ HH.objs.size := by rw [hC]; exact Nat.le_succ _
  have cne : ∀ x c, (clos X.env.cells scope.names []).lookup x = some c → c ≠ s2.heap.objs.size := fun x c q => by
    have q' := clos_sub (I2.freeCells B) (fun x c z => by simp at z) x c q
    obtain ⟨v, z⟩ := I2.cell x c q'
    exact Nat.ne_of_lt z.lt
  have pne : ∀ p ∈ X.pn ++ pins, p.1 ≠ s2.heap.objs.size := fun p hp => Nat.ne_of_lt (Heap.lt_size (I2.pin p hp).1)
  have J0 := block_start (fp := fp) (h₁ := h₁) (C := HH.objs.size) (D := s2.heap.objs.size) (tk := s2.toks + ([] : List (Str × Value)).length) (oD := lobj []) I2 B f2 hfl old hCle (Nat.le_refl _) hDC ⟨_, hns₁⟩ hacc (fun v z => by cases z)
  -- what stays true of the iterator's objects through the loop
  have stat : ∀ {H' : Hp} {us : List Value}, (∀ b ∈ fp, H' b = none) → ∀ b ∈ fp, FpOk (X.block (tn ++ M) scope HH.objs.size s2 H2 fp) (pins ++ [(s2.heap.objs.size, lobj us)]) H' b := fun {H' us} hn b hb =>
    ⟨hn b hb, (J0.ok.exf b hb).1, J0.ok.exfs b hb, .inl hb, (J0.ok.exf b hb).2, fun p hp => by
      rcases List.mem_append.mp hp with q | q
      · exact (f2 b hb).2.2.2.2.2 p (List.mem_append_left _ q)
      · rcases List.mem_append.mp q with q | q
        · exact (f2 b hb).2.2.2.2.2 p (List.mem_append_right _ q)
        · obtain rfl := List.mem_singleton.mp q
          exact Ne.symm (below b (hfl b hb)).2⟩
  have loop : ∀ s₃ : Shared, s₃ = { s2 with heap := h₁, toks := s2.toks + ([] : List (Str × Value)).length } →
      codeAny (model X.prog X.w) X.A (.compLoop (.ListComp elt [⟨tg, iter, ifs, 0⟩] scope pos) 0 (.ref it) (.ref s2.heap.objs.size) (compEnvC scope (clos X.env.cells scope.names []) HH.objs.size X.env))
        (RR (.ref s2.heap.objs.size) HH.objs.size) s₃ := by
    rintro s₃ rfl
    refine compLoop_go (fun n s' => ∃ i σ' H' us vs, Inv (X.block (tn ++ M) scope HH.objs.size s2 H2 fp) (pins ++ [(s2.heap.objs.size, lobj us)]) σ' H' s' ∧ tn' i s'.heap ∧ (∀ b ∈ fp, H' b = none) ∧ Vals vs us ∧ vs.length ≤ sizeLine ∧ W i n vs σ' H') ?_ m0
      ⟨0, _, H2, [], [], J0, T.keep _ _ _ st2 (fun b _ o e => old b o e), fun b hb => (f2 b hb).1, .nil, Nat.zero_le _, w0⟩
    rintro n s3 ⟨i, σ3, H3, us, vs, I3, st3, fr3, rv, hz, w3⟩
    rcases turn i n vs σ3 H3 w3 with ⟨stop, qn⟩ | ⟨go, hlt, N, hN, step⟩
    · refine thn (T.done (X.block (tn ++ M) scope HH.objs.size s2 H2 fp) rfl rfl rfl hc i _ s3 σ3 H3 _ I3 (stat fr3) st3 stop) fun r s4 ⟨hr, I4⟩ => ?_
      subst hr
      have pD := I4.pin (s2.heap.objs.size, lobj us) (by simp)
      have IE := block_end I2 I4 f2 (Nat.le_refl _) pD.1 pD.2.1 rv hz
      refine hRR _ _ s4 ⟨_, IE, qn _ pD.2.1, let ⟨m, z, _⟩ := I4.loc; ⟨m, z⟩, ?_⟩
      exact I2.fpOk hCle (by rw [upd_ne (Ne.symm hDC)]; exact I4.free)
    · refine thn (T.item (X.block (tn ++ M) scope HH.objs.size s2 H2 fp) rfl rfl rfl hc i _ s3 σ3 H3 (fun _ _ => False) I3 (stat fr3) st3 go) fun r s4 ⟨u, hr, h4⟩ => ?_
      subst hr
      refine thn h4 fun _ s5 ⟨x, H5, I5, r5, y5, st5, fr5⟩ => ?_
      have I5' := I5.pinned (stat fr5) (T.obj _ _ st5)
      refine thn (hg HH.objs.size s2 H2 fp _ s5 σ3 H5 x u _ I5' r5 (step x H5 y5)) fun _ s6 ⟨σ6, H6, I6, q6⟩ => ?_
      refine thn (ht HH.objs.size s2 H2 fp _ s6 σ6 H6 _ I6 q6) fun ok s7 ⟨H7, I7, q7⟩ => ?_
      have keepFp : ∀ {σ' : St} {H' : Hp} {s' : Shared}, Inv (X.block (tn ++ M) scope HH.objs.size s2 H2 fp) (pins ++ [(s2.heap.objs.size, lobj us)] ++ pinsAt fp s5.heap) σ' H' s' → tn' (i + 1) s'.heap ∧ ∀ b ∈ fp, H' b = none := fun {σ' H' s'} J =>
        ⟨T.keep _ _ _ st5 fun b hb o e => (J.pin (b, o) (List.mem_append_right _ (List.mem_append_right _ (mem_pinsAt hb e)))).1, fun b hb => by
          obtain ⟨o, e, d⟩ := T.obj _ _ st5 b hb
          exact (J.pin (b, o) (List.mem_append_right _ (List.mem_append_right _ (mem_pinsAt hb e)))).2.1⟩
      cases ok with
      | false =>
        rw [if_neg Bool.false_ne_true]
        rw [if_neg Bool.false_ne_true] at q7
        obtain ⟨k', hk, w7⟩ := hN _ _ _ q7
        obtain ⟨a1, a2⟩ := keepFp I7
        exact ⟨k', hk, i + 1, σ6, H7, us, vs, I7.unpinned, a1, a2, rv, hz, w7⟩
      | true =>
        rw [if_pos rfl]
        rw [if_pos rfl] at q7
        refine thn (he HH.objs.size s2 H2 fp _ s7 σ6 H7 _ I7 q7) fun y s8 ⟨yv, H8, I8, ry, q8⟩ => ?_
        have pD := I8.pin (s2.heap.objs.size, lobj us) (by simp)
        have hl := rv.length
        refine append_at (hsz := by rw [List.size_toArray]; omega) pD.1 fun h' hs' hD' => ?_
        have eD' : h'.get? s2.heap.objs.size = some (lobj (us ++ [y])) := by
          rw [hD', List.push_toArray]
          show some ({ cls := .type "list", data := .seq (us ++ [y]).toArray (us.length + 1) } : Obj) = some (lobj (us ++ [y]))
          unfold lobj
          rw [List.length_append, List.length_singleton]
        have I9 := I8.filled (Nat.le_refl _) cne pne hs' eD' (fun v z => by cases z)
        obtain ⟨k', hk, w9⟩ := hN _ _ _ q8
        obtain ⟨a1, a2⟩ := keepFp I8
        refine ⟨k', hk, i + 1, σ6, H8, us ++ [y], vs ++ [yv], I9, T.keep _ _ _ a1 (fun b hb o e => (hs'.2 b (below b (hfl b hb)).2).trans e), a2, Vals.append rv (.cons ry .nil), ?_, w9⟩
        rw [List.length_append, List.length_singleton]
        omega
  exact codeAny_compStart_list (loop _ rfl) (T.self _ 0 _ _ _ (T.keep _ _ _ st2 fun b _ o e => old b o e) (loop _ rfl))
/-- [elt for tg in iter if ..] -/
theorem pe_comp (hc : X.calm = true) (B : BlkOk X tn M scope) (hi : PI X tg iter wi)
    (hg : ∀ C s₀ H₀ ex, PG (X.block (tn ++ M) scope C s₀ H₀ ex) tg g) (ht : ∀ C s₀ H₀ ex, PTs (X.block (tn ++ M) scope C s₀ H₀ ex) ifs tc) (he : ∀ C s₀ H₀ ex, PE (X.block (tn ++ M) scope C s₀ H₀ ex) elt te)
    (hs : ∀ x, foldedSetIterable iter X.env x = pure x := by intro _; rfl) :
    PE X (.ListComp elt [⟨tg, iter, ifs, 0⟩] scope pos) (tComp wi tn.length g tc te) := by
  intro pins s σ H Q I h
  rw [eval_ListComp]
  refine wpAny_comprehension_free (use := none) rfl hs (closureFor_clos (I.freeCells B)) B.kind B.own ?_
  refine comp_run (RR := fun acc C => compPost (model X.prog X.w) X.A X.xe none (EP X pins σ Q) acc C) hc B hi hg ht he I h fun D C s' hu => ?_
  obtain ⟨H', I', q, ⟨m, hn⟩, f0, f1, f2, f3, f4, f5⟩ := hu
  refine ⟨m, hn, fun h' hs' => ?_⟩
  exact ⟨.ref D, H', I'.turned (it := C) (t' := s'.toks) (fun b o hb e => (hs'.2 b hb).trans e) f0 f1 f3 f4 f5, rfl, q⟩
/-- name = [elt for tg in iter if ..], the name a plain local -/
theorem ps_setC {i : Nat} {y : Str} {pos' spos : Pos} (hN : X.N.Nodup) (hy : X.N[i]? = some y) (hl : X.env.scope.names.lookup y = some .local) (hc : X.calm = true) (B : BlkOk X tn M scope) (hi : PI X tg iter wi)
    (hg : ∀ C s₀ H₀ ex, PG (X.block (tn ++ M) scope C s₀ H₀ ex) tg g) (ht : ∀ C s₀ H₀ ex, PTs (X.block (tn ++ M) scope C s₀ H₀ ex) ifs tc) (he : ∀ C s₀ H₀ ex, PE (X.block (tn ++ M) scope C s₀ H₀ ex) elt te)
    (hsw : swapsWith (.ListComp elt [⟨tg, iter, ifs, 0⟩] scope pos) (some (.Name y pos')) spos.line X.env = pure true := by rfl) (hs : ∀ x, foldedSetIterable iter X.env x = pure x := by intro _; rfl) :
    PS X (.Assign [.Name y pos'] (.ListComp elt [⟨tg, iter, ifs, 0⟩] scope pos) spos) (tAsg (tComp wi tn.length g tc te) (gName i)) := by
  intro pins s σ H D I h
  rw [exec_Assign_Name_used _ _ _ _ hsw]
  refine wpAny_bind (wpAny_standAt (wpAny_bind ?_))
  show wpAny _ X.A (do let _ ← comprehension (.ListComp elt [⟨tg, iter, ifs, 0⟩] scope pos) scope X.env _ (newList []) false (eval iter X.env) (some (assign (.Name y pos') X.env))) _ _ s
  refine wpAny_bind (wpAny_mono (wpAny_comprehension_free (use := some (assign (.Name y pos') X.env)) (Q := fun _ s' => SP X pins D .next s') rfl hs (closureFor_clos (I.freeCells B)) B.kind B.own ?_) (fun _ s' hq => wpAny_pure (wpAny_pure hq)) fun _ _ e => e)
  refine comp_run (RR := fun acc C => compPost (model X.prog X.w) X.A X.xe (some (assign (.Name y pos') X.env)) (fun _ s' => SP X pins D .next s') acc C) (Q := fun x H1 => gName i x σ H1 D.nx) hc B hi hg ht he I h fun E C s' hu => ?_
  obtain ⟨H', I', q, ⟨m, hn⟩, f0, f1, f2, f3, f4, f5⟩ := hu
  show wpAny _ X.A (assign (.Name y pos') X.env (.ref E)) _ X.xe s'
  refine wpAny_assign_Name (store_ok2 I' hN hy (.inl hl) (v := .ref E) rfl (fun s2 I2 hs2 => ?_) (.inr hl))
  obtain ⟨a, sb, ha⟩ := hs2
  have hCa : C ≠ a := by
    rcases ha with z | z
    · rw [z]; exact f1
    · exact fun e => f4 y a z e.symm
  refine ⟨m, hn.sameBut sb hCa, fun h' hs' => ?_⟩
  exact ⟨_, H', I2.turned (it := C) (t' := s2.toks) (fun b o hb e => (hs'.2 b hb).trans e) f0 f1 f3 f4 f5, q⟩
end
/-! ### the forms one uses -/
section
variable {g : TG} {tc : TT} {te : TE} {Q : VK} {σ' : St} {H : Hp}
theorem comp_tup {K : PySem.W.Frag} {a : Addr} {xs : List V} (Pv : Nat → List V → St → Hp → Prop) (h0 : Pv 0 [] σ' H) (hl : ∀ i vs σ H, i ≤ xs.length → Pv i vs σ H → SqT K H a xs) (hz : xs.length ≤ sizeLine) (hn : ∀ i vs σ H, Pv i vs σ H → vs.length ≤ i)
    (hs : ∀ i x vs σ H, xs[i]? = some x → Pv i vs σ H → g x σ H fun σ2 H2 => tc σ2 H2 fun b H3 => if b = true then te σ2 H3 fun y H4 => Pv (i + 1) (vs ++ [y]) σ2 H4 else Pv (i + 1) vs σ2 H3)
    (hd : ∀ vs σ H, Pv xs.length vs σ H → ∀ p, H p = none → Q (.ref p) (upd H p (.lst vs))) :
    ∃ W : Nat → Nat → List V → St → Hp → Prop, (∃ k, W 0 k [] σ' H) ∧ ∀ i k vs σ H, W i k vs σ H →
      ((Itt K a).stop i H ∧ ∀ p, H p = none → Q (.ref p) (upd H p (.lst vs))) ∨
      ((Itt K a).go i H ∧ vs.length < sizeLine ∧ ∃ N : List V → St → Hp → Prop, (∀ vs' σ' H', N vs' σ' H' → ∃ k', k' < k ∧ W (i + 1) k' vs' σ' H') ∧
        ∀ x H', (Itt K a).yld i H x H' → g x σ H' fun σ2 H2 => tc σ2 H2 fun b H3 => if b = true then te σ2 H3 fun y H4 => N (vs ++ [y]) σ2 H4 else N vs σ2 H3) := by
  refine ⟨fun i m vs σ H => m = xs.length - i ∧ i ≤ xs.length ∧ Pv i vs σ H, ⟨xs.length, by simp, Nat.zero_le _, h0⟩, ?_⟩
  rintro i m vs σ H ⟨rfl, hi, p⟩
  have q := hl i vs σ H hi p
  by_cases hlt : i < xs.length
  · refine .inr ⟨⟨xs, xs[i], q, by simp [hlt]⟩, Nat.lt_of_le_of_lt (hn _ _ _ _ p) (Nat.lt_of_lt_of_le hlt hz), Pv (i + 1), fun vs' σ' H' p' => ⟨xs.length - (i + 1), by omega, rfl, hlt, p'⟩, fun x H' y => ?_⟩
    obtain ⟨e, y⟩ := y
    subst e
    exact hs i x vs σ _ (y xs q) p
  · have e : i = xs.length := by omega
    subst e
    exact .inl ⟨⟨xs, q, Nat.le_refl _⟩, hd vs σ H p⟩
theorem comp_range {lo : Int} {n : Nat} (Pv : Nat → List V → St → Hp → Prop) (h0 : Pv 0 [] σ' H) (hz : n ≤ sizeLine) (hn : ∀ i vs σ H, Pv i vs σ H → vs.length ≤ i)
    (hs : ∀ i vs σ H, i < n → Pv i vs σ H → g (.int (lo + i)) σ H fun σ2 H2 => tc σ2 H2 fun b H3 => if b = true then te σ2 H3 fun y H4 => Pv (i + 1) (vs ++ [y]) σ2 H4 else Pv (i + 1) vs σ2 H3)
    (hd : ∀ vs σ H, Pv n vs σ H → ∀ p, H p = none → Q (.ref p) (upd H p (.lst vs))) :
    ∃ W : Nat → Nat → List V → St → Hp → Prop, (∃ k, W 0 k [] σ' H) ∧ ∀ i k vs σ H, W i k vs σ H →
      ((Itr lo n).stop i H ∧ ∀ p, H p = none → Q (.ref p) (upd H p (.lst vs))) ∨
      ((Itr lo n).go i H ∧ vs.length < sizeLine ∧ ∃ N : List V → St → Hp → Prop, (∀ vs' σ' H', N vs' σ' H' → ∃ k', k' < k ∧ W (i + 1) k' vs' σ' H') ∧
        ∀ x H', (Itr lo n).yld i H x H' → g x σ H' fun σ2 H2 => tc σ2 H2 fun b H3 => if b = true then te σ2 H3 fun y H4 => N (vs ++ [y]) σ2 H4 else N vs σ2 H3) := by
  refine ⟨fun i m vs σ H => m = n - i ∧ i ≤ n ∧ Pv i vs σ H, ⟨n, by simp, Nat.zero_le _, h0⟩, ?_⟩
  rintro i m vs σ H ⟨rfl, hi, p⟩
  by_cases hlt : i < n
  · refine .inr ⟨hlt, Nat.lt_of_le_of_lt (hn _ _ _ _ p) (Nat.lt_of_lt_of_le hlt hz), Pv (i + 1), fun vs' σ' H' p' => ⟨n - (i + 1), by omega, rfl, hlt, p'⟩, fun x H' y => ?_⟩
    obtain ⟨e, y⟩ := y
    subst e y
    exact hs i vs σ _ hlt p
  · have e : i = n := by omega
    subst e
    exact .inl ⟨Nat.le_refl _, hd vs σ H p⟩
end
end L2
set_option Elab.async false
set_option linter.all false
set_option maxRecDepth 100000
set_option maxHeartbeats 4000000
/-! FURTHER RULES over the hand layer: calls by a def's promise, tables of the module, isinstance, sum, all, == of lists and tuples, division. -/
namespace L2
open PySem PySem.Spec PyProof.Rows
theorem nomk (b : Expr) {op : CmpOp} (h : behindInMarks op b = false := by rfl) : behindInMarks op b = false := h
/-! ### a def by its promise -/
structure Cal (P : Program) (w : World) (K : PySem.W.Frag) (mg : Str → Option Value) (base : Heap) (x : Str) (k : Nat) (ps : List Str) (sp : Sp) : Prop where
  ex : ∃ (f : Addr) (fd : FuncData), FnOk P w K mg base CX0 k f fd ps sp ∧ mg x = some (.ref f) ∧ PySem.W.keepIn K (.ref f) = true ∧ Binds K fd ps []
section
variable {X : Cx} {k : Nat} {ps : List Str} {sp : Sp} {x : Str} {p pos : Pos} {e : Expr} {es : List Expr} {t : TA}
theorem pe_callC (c : Cal X.prog X.w X.K X.mg X.base x k ps sp) (hr : Room k X.A) (ha : PA X (e :: es) t) (hg : Gl X x := by rfl)
    (hdb : (x == ("__debug__" : Str)) = false := by decide) (he : starEach (e :: es) X.env = (false, eval e X.env) :: starEach es X.env := by rfl) (hpl : (backTo pos (starEach es X.env)).any (·.1) = false := by rfl) :
    PE X (.Call (.Name x p) (e :: es) [] pos) (tCall sp [] E0 t) := by
  obtain ⟨f, fd, F, hm, hk, hb⟩ := c.ex
  exact pe_call F hr hg hm hk hb .nil pass0 ha hdb he hpl
end
/-! ### tests and values -/
section
variable {X : Cx} {a b : Expr} {ta tb : TE} {pos : Pos} {tA : TT}
end
/-! ### isinstance -/
section
variable {X : Cx}
end
section
variable {X : Cx}
end
/-! ### == and != of data -/
mutual
inductive DatV (K : PySem.W.Frag) (H : Hp) : V → PyData → Prop
  | non : DatV K H .non .none
  | bl (b : Bool) : DatV K H (.bl b) (.bool b)
  | int (i : Int) : DatV K H (.int i) (.int i)
  | str (x : Str) : DatV K H (.str x) (.str x)
  | lst {a : Addr} {xs : List V} {ds : List PyData} : SqL K H a xs → DatVs K H xs ds → DatV K H (.ref a) (.list ds)
  | tup {a : Addr} {xs : List V} {ds : List PyData} : SqT K H a xs → DatVs K H xs ds → DatV K H (.ref a) (.tuple ds)
inductive DatVs (K : PySem.W.Frag) (H : Hp) : List V → List PyData → Prop
  | nil : DatVs K H [] []
  | cons {x : V} {xs : List V} {d : PyData} {ds : List PyData} : DatV K H x d → DatVs K H xs ds → DatVs K H (x :: xs) (d :: ds)
end
section
variable {X : Cx} {pins : List (Addr × Obj)} {σ : St} {H : Hp} {s : Shared}
mutual
theorem reads_of (I : Inv X pins σ H s) : ∀ {x : V} {d : PyData} {u : Value}, DatV X.K H x d → RelV x u → ∃ as, Reads s.heap u d as
  | _, _, _, .non, r => by cases r; exact ⟨_, .none⟩
  | _, _, _, .bl b, r => by cases r; exact ⟨_, .bool b⟩
  | _, _, _, .int i, r => by obtain ⟨t, rfl⟩ := r; exact ⟨_, .int i t⟩
  | _, _, _, .str x, r => by obtain ⟨t, rfl⟩ := r; exact ⟨_, .str x t⟩
  | _, _, _, .lst hq hs, r => by
    cases r
    obtain ⟨its, rv, ⟨o, n, e, c, _, dd⟩, _⟩ := I.list hq
    obtain ⟨as, h⟩ := readsAll_of I hs rv
    exact ⟨_, .list e c dd (by simpa using h)⟩
  | _, _, _, .tup hq hs, r => by
    cases r
    obtain ⟨its, rv, ⟨o, e, c, n, dd⟩, _⟩ := I.tuple hq
    obtain ⟨as, h⟩ := readsAll_of I hs rv
    exact ⟨_, .tuple e c dd (by simpa using h)⟩
theorem readsAll_of (I : Inv X pins σ H s) : ∀ {xs : List V} {ds : List PyData} {us : List Value}, DatVs X.K H xs ds → Vals xs us → ∃ as, ReadsAll s.heap us ds as
  | _, _, _, .nil, .nil => ⟨_, .nil⟩
  | _, _, _, .cons h t, .cons r rs => by
    obtain ⟨as, a⟩ := reads_of I h r
    obtain ⟨bs, b⟩ := readsAll_of I t rs
    exact ⟨_, .cons a b⟩
end
end
section
variable {X : Cx}
def rEqD (K : PySem.W.Frag) (neg : Bool) : R2 := fun x y H Q => ∃ d e, DatV K H x d ∧ DatV K H y e ∧ SeqAt.shaped d = true ∧ SeqAt.shaped e = true ∧ SeqAt.noMix d e = true ∧ Q (.bl (if neg = true then !same d e else same d e)) H
theorem op_eqD (hu : X.A.units + 64 < cLine) : OpR X (compareOp .Eq) (rEqD X.K false) := by
  intro pins s σ H x y v u Q I rx ry h
  obtain ⟨d, e, hd, he, sd, se, nm, q⟩ := h
  obtain ⟨as, ra⟩ := reads_of I hd rx
  obtain ⟨bs, rb⟩ := reads_of I he ry
  exact eq_dataH_same ra rb sd se hu nm ⟨.bl (same d e), H, I, rfl, q⟩
end
/-! ### a dict of the module, read by a key -/
def EntOk (w : World) : List DictEntry → List (Key × V) → Prop
  | [], [] => True
  | e :: es, (k, v) :: kvs => keyIs k e.key = true ∧ e.hash = keyH w k ∧ RelV v e.val ∧ EntOk w es kvs
  | _, _ => False
structure TabK (P : Program) (w : World) (K : PySem.W.Frag) (a : Addr) (kvs : List (Key × V)) : Prop where
  get : ∀ h : Heap, K.In h → ∃ vs, KV kvs vs ∧ h.DictOf (mixKind P w) a vs
theorem TabK.of {P : Program} {w : World} {K : PySem.W.Frag} {a : Addr} {es : Array DictEntry} {n : Nat} {kvs : List (Key × V)} (hl : K.lookup a = some ⟨.type "dict", none, .dict es n, #[]⟩) (he : EntOk w es.toList kvs) (nd : (kvs.map (·.1)).Nodup) : TabK P w K a kvs := by
  refine ⟨fun h X => ?_⟩
  have go : ∀ (l : List DictEntry) (kvs : List (Key × V)), EntOk w l kvs → (∀ e ∈ l, ∃ k, keyIs k e.key = true ∧ e.hash = keyH w k) ∧ ∃ vs : List (Key × Value), KV kvs vs ∧ Pairs (mixKind P w) l vs ∧ vs.map (·.1) = kvs.map (·.1) := by
    intro l
    induction l with
    | nil =>
      intro kvs h
      cases kvs with
      | nil => exact ⟨fun e he => by simp at he, [], .nil, .nil, rfl⟩
      | cons p r => exact h.elim
    | cons e es ih =>
      intro kvs h
      cases kvs with
      | nil => exact h.elim
      | cons p r =>
        obtain ⟨k, v⟩ := p
        obtain ⟨h1, h2, h3, h4⟩ := h
        obtain ⟨g1, vs, g2, g3, g4⟩ := ih r h4
        refine ⟨fun e' he' => ?_, (k, e.val) :: vs, .cons ⟨rfl, h3⟩ g2, .cons h1 rfl g3, by simp [g4]⟩
        rcases List.mem_cons.mp he' with q | q
        · rw [q]; exact ⟨k, h1, h2⟩
        · exact g1 e' q
  obtain ⟨g1, vs, g2, g3, g4⟩ := go es.toList kvs he
  exact ⟨vs, g2, _, es, n, X a _ hl, ⟨rfl, rfl, rfl⟩, rfl, fun e he' => g1 e (by simpa using he'), g3, by rw [g4]; exact nd⟩
section
variable {X : Cx} {x : Str} {p pos : Pos} {i : Expr} {ti : TE} {a : Addr} {kvs : List (Key × V)}
def tTab (kvs : List (Key × V)) (ti : TE) : TE := fun σ H Q => ti σ H fun y H1 => ∃ k v, y = kV k ∧ valV kvs k = some v ∧ Q v H1
theorem pe_tab (hm : X.mg x = some (.ref a)) (hg : Gl X x) (T : TabK X.prog X.w X.K a kvs) (hi : PE X i ti) (hs : NoSl i := by intro _ _; rfl) (hd : (x == ("__debug__" : Str)) = false := by decide) :
    PE X (.Subscript (.Name x p) i pos) (tTab kvs ti) := by
  intro pins s σ H Q I h
  refine subD_of PySem.F.slot_dict_getitem.lookup hs (ld_glob I hg hm ?_ hd)
  refine thn (hi pins s σ H _ I h) fun iv s2 ⟨y, H2, I2, ry, k, v, ey, l, q2⟩ => ?_
  subst ey
  obtain ⟨vs, rel, dd⟩ := T.get s2.heap I2.kIn
  refine ⟨dd.typeIs, ?_⟩
  obtain ⟨w', hw, rw'⟩ := RelO.some_of (v := v) (o := valueAt vs k) (by rw [← l]; exact rel.val k)
  exact wpAny_getItem_of (kV_is ry) dd.mapOf hw ⟨v, H2, I2.tok _, rw', q2⟩
end
/-! ### a, b, .. = a list of that length -/
section
variable {X : Cx} {pos : Pos}
def gLst (K : PySem.W.Frag) (n : Nat) (t : TGs) : TG := fun v σ H Q => ∃ a xs, v = .ref a ∧ SqL K H a xs ∧ xs.length = n ∧ t xs σ H Q
end
theorem qb {Q : VK} {H : Hp} {a b : Bool} (k : Q (.bl a) H) (e : b = a) : Q (.bl b) H := e ▸ k
theorem Same.seqT {K : PySem.W.Frag} {H H' : Hp} {a : Addr} {xs : List V} (e : Same H H') (h : SqT K H a xs) : SqT K H' a xs := by
  rcases h with (h | ⟨o, h⟩) | h
  · exact .inl (.inl (e _ _ h))
  · exact .inl (.inr ⟨o, e _ _ h⟩)
  · exact .inr h
theorem Same.upd {H : Hp} {p : Addr} {o : HO} (h : H p = none) : Same H (upd H p o) := fun b u e => by rw [upd_ne (ne_of_none e h)]; exact e
/-! ### calls by shape -/
section
variable {X : Cx}
def rLen (K : PySem.W.Frag) : List V → Hp → VK → Prop
  | [.ref p], H, Q => ∃ ys, (SqL K H p ys ∨ SqT K H p ys) ∧ Q (.int ys.length) H
  | [.str z], H, Q => z.length ≤ sizeLine ∧ Q (.int z.length) H
  | _, _, _ => False
theorem call_lenR : CallR X (.builtin "len") (rLen X.K) := by
  intro pins s σ H xs us Q I r h
  match xs, h with
  | [.ref p], ⟨ys, hq, q⟩ => exact call_len_seq pins s σ H _ us Q I r ⟨p, ys, rfl, hq, q⟩
  | [.str z], ⟨hz, q⟩ => exact call_len_str pins s σ H _ us Q I r ⟨z, rfl, hz, q⟩
def rListOf (K : PySem.W.Frag) : List V → Hp → VK → Prop
  | [.ref p], H, Q => ∃ ys, (SqL K H p ys ∨ SqT K H p ys) ∧ ∀ l, H l = none → Q (.ref l) (upd H l (.lst ys))
  | _, _, _ => False
end
/-! ### a tuple of the module -/
theorem tupK {K : PySem.W.Frag} {a : Addr} {od : Option Addr} {its : Array Value} {n : Nat} {sl : Array (Option Value)} {xs : List V} (hl : K.lookup a = some ⟨.type "tuple", od, .seq its n, sl⟩) (hv : Vals xs its.toList) (hz : xs.length ≤ 1000) : ∀ H, SqT K H a xs := fun H => by
  refine .inr ⟨_, its, n, hl, rfl, rfl, ?_, hv⟩
  have e := hv.length
  have z := small1000 hz
  simp only [Array.length_toList] at e
  omega
theorem calOf {P : Program} {w : World} {K : PySem.W.Frag} {mg : Str → Option Value} {base : Heap} {x : Str} {k : Nat} {ps : List Str} {sp : Sp} {f : Addr} {fd : FuncData} (h : FnOk P w K mg base CX0 k f fd ps sp) (hm : mg x = some (.ref f)) (hk : PySem.W.keepIn K (.ref f) = true) (hb : Binds K fd ps []) : Cal P w K mg base x k ps sp := ⟨f, fd, h, hm, hk, hb⟩
/-! ### a if t else b, a and b written numbers: one value -/
section
variable {X : Cx} {c : Expr} {tA : TT} {a b : Int} {j j' : Nat} {p p' pos : Pos}
def tIfC (t : TT) (a b : Int) : TE := fun σ H Q => t σ H fun c H1 => Q (.int (if c = true then a else b)) H1
end
/-! ### the built-in names -/
theorem bb_len : bootBuiltins "len" = some (.builtin "len") := by decide +kernel
theorem bb_max : bootBuiltins "max" = some (.builtin "max") := by decide +kernel
theorem bb_min : bootBuiltins "min" = some (.builtin "min") := by decide +kernel
theorem iteN {c A B : Prop} [Decidable c] (h : ¬ c) (b : B) : if c then A else B := by rw [if_neg h]; exact b
end L2
set_option Elab.async false
set_option linter.all false
set_option maxRecDepth 100000
set_option maxHeartbeats 4000000
/-! A READING WORKED OFF FROM ITS HEAD: each row rewrites the transformer that stands foremost; «simp only» by these rows (as pre-rows) leaves the conditions alone. -/
namespace L2
open PySem PySem.Spec PyProof.Rows
namespace Rd
section
variable {D : Ends} {σ : St} {H : Hp} {Q : VK} {QB : Bool → Hp → Prop} {QA : List V → Hp → Prop} {QS : St → Hp → Prop}
theorem v0 {v : V} {r : St} : tVar 0 (some v :: r) H Q = Q v H := propext ⟨fun ⟨_, e, q⟩ => by cases e; exact q, fun q => ⟨v, rfl, q⟩⟩
theorem g0 {b : Option V} {v : V} {r : St} : gName 0 v (b :: r) H QS = QS (some v :: r) H := rfl
theorem v1 {a0 : Option V} {v : V} {r : St} : tVar 1 (a0 :: some v :: r) H Q = Q v H := propext ⟨fun ⟨_, e, q⟩ => by cases e; exact q, fun q => ⟨v, rfl, q⟩⟩
theorem g1 {a0 b : Option V} {v : V} {r : St} : gName 1 v (a0 :: b :: r) H QS = QS (a0 :: some v :: r) H := rfl
theorem v2 {a0 a1 : Option V} {v : V} {r : St} : tVar 2 (a0 :: a1 :: some v :: r) H Q = Q v H := propext ⟨fun ⟨_, e, q⟩ => by cases e; exact q, fun q => ⟨v, rfl, q⟩⟩
theorem g2 {a0 a1 b : Option V} {v : V} {r : St} : gName 2 v (a0 :: a1 :: b :: r) H QS = QS (a0 :: a1 :: some v :: r) H := rfl
theorem v3 {a0 a1 a2 : Option V} {v : V} {r : St} : tVar 3 (a0 :: a1 :: a2 :: some v :: r) H Q = Q v H := propext ⟨fun ⟨_, e, q⟩ => by cases e; exact q, fun q => ⟨v, rfl, q⟩⟩
theorem g3 {a0 a1 a2 b : Option V} {v : V} {r : St} : gName 3 v (a0 :: a1 :: a2 :: b :: r) H QS = QS (a0 :: a1 :: a2 :: some v :: r) H := rfl
theorem v4 {a0 a1 a2 a3 : Option V} {v : V} {r : St} : tVar 4 (a0 :: a1 :: a2 :: a3 :: some v :: r) H Q = Q v H := propext ⟨fun ⟨_, e, q⟩ => by cases e; exact q, fun q => ⟨v, rfl, q⟩⟩
theorem g4 {a0 a1 a2 a3 b : Option V} {v : V} {r : St} : gName 4 v (a0 :: a1 :: a2 :: a3 :: b :: r) H QS = QS (a0 :: a1 :: a2 :: a3 :: some v :: r) H := rfl
theorem v5 {a0 a1 a2 a3 a4 : Option V} {v : V} {r : St} : tVar 5 (a0 :: a1 :: a2 :: a3 :: a4 :: some v :: r) H Q = Q v H := propext ⟨fun ⟨_, e, q⟩ => by cases e; exact q, fun q => ⟨v, rfl, q⟩⟩
theorem g5 {a0 a1 a2 a3 a4 b : Option V} {v : V} {r : St} : gName 5 v (a0 :: a1 :: a2 :: a3 :: a4 :: b :: r) H QS = QS (a0 :: a1 :: a2 :: a3 :: a4 :: some v :: r) H := rfl
theorem v6 {a0 a1 a2 a3 a4 a5 : Option V} {v : V} {r : St} : tVar 6 (a0 :: a1 :: a2 :: a3 :: a4 :: a5 :: some v :: r) H Q = Q v H := propext ⟨fun ⟨_, e, q⟩ => by cases e; exact q, fun q => ⟨v, rfl, q⟩⟩
theorem g6 {a0 a1 a2 a3 a4 a5 b : Option V} {v : V} {r : St} : gName 6 v (a0 :: a1 :: a2 :: a3 :: a4 :: a5 :: b :: r) H QS = QS (a0 :: a1 :: a2 :: a3 :: a4 :: a5 :: some v :: r) H := rfl
theorem v7 {a0 a1 a2 a3 a4 a5 a6 : Option V} {v : V} {r : St} : tVar 7 (a0 :: a1 :: a2 :: a3 :: a4 :: a5 :: a6 :: some v :: r) H Q = Q v H := propext ⟨fun ⟨_, e, q⟩ => by cases e; exact q, fun q => ⟨v, rfl, q⟩⟩
theorem g7 {a0 a1 a2 a3 a4 a5 a6 b : Option V} {v : V} {r : St} : gName 7 v (a0 :: a1 :: a2 :: a3 :: a4 :: a5 :: a6 :: b :: r) H QS = QS (a0 :: a1 :: a2 :: a3 :: a4 :: a5 :: a6 :: some v :: r) H := rfl
theorem v8 {a0 a1 a2 a3 a4 a5 a6 a7 : Option V} {v : V} {r : St} : tVar 8 (a0 :: a1 :: a2 :: a3 :: a4 :: a5 :: a6 :: a7 :: some v :: r) H Q = Q v H := propext ⟨fun ⟨_, e, q⟩ => by cases e; exact q, fun q => ⟨v, rfl, q⟩⟩
theorem g8 {a0 a1 a2 a3 a4 a5 a6 a7 b : Option V} {v : V} {r : St} : gName 8 v (a0 :: a1 :: a2 :: a3 :: a4 :: a5 :: a6 :: a7 :: b :: r) H QS = QS (a0 :: a1 :: a2 :: a3 :: a4 :: a5 :: a6 :: a7 :: some v :: r) H := rfl
theorem v9 {a0 a1 a2 a3 a4 a5 a6 a7 a8 : Option V} {v : V} {r : St} : tVar 9 (a0 :: a1 :: a2 :: a3 :: a4 :: a5 :: a6 :: a7 :: a8 :: some v :: r) H Q = Q v H := propext ⟨fun ⟨_, e, q⟩ => by cases e; exact q, fun q => ⟨v, rfl, q⟩⟩
theorem g9 {a0 a1 a2 a3 a4 a5 a6 a7 a8 b : Option V} {v : V} {r : St} : gName 9 v (a0 :: a1 :: a2 :: a3 :: a4 :: a5 :: a6 :: a7 :: a8 :: b :: r) H QS = QS (a0 :: a1 :: a2 :: a3 :: a4 :: a5 :: a6 :: a7 :: a8 :: some v :: r) H := rfl
theorem v10 {a0 a1 a2 a3 a4 a5 a6 a7 a8 a9 : Option V} {v : V} {r : St} : tVar 10 (a0 :: a1 :: a2 :: a3 :: a4 :: a5 :: a6 :: a7 :: a8 :: a9 :: some v :: r) H Q = Q v H := propext ⟨fun ⟨_, e, q⟩ => by cases e; exact q, fun q => ⟨v, rfl, q⟩⟩
theorem g10 {a0 a1 a2 a3 a4 a5 a6 a7 a8 a9 b : Option V} {v : V} {r : St} : gName 10 v (a0 :: a1 :: a2 :: a3 :: a4 :: a5 :: a6 :: a7 :: a8 :: a9 :: b :: r) H QS = QS (a0 :: a1 :: a2 :: a3 :: a4 :: a5 :: a6 :: a7 :: a8 :: a9 :: some v :: r) H := rfl
theorem v11 {a0 a1 a2 a3 a4 a5 a6 a7 a8 a9 a10 : Option V} {v : V} {r : St} : tVar 11 (a0 :: a1 :: a2 :: a3 :: a4 :: a5 :: a6 :: a7 :: a8 :: a9 :: a10 :: some v :: r) H Q = Q v H := propext ⟨fun ⟨_, e, q⟩ => by cases e; exact q, fun q => ⟨v, rfl, q⟩⟩
theorem g11 {a0 a1 a2 a3 a4 a5 a6 a7 a8 a9 a10 b : Option V} {v : V} {r : St} : gName 11 v (a0 :: a1 :: a2 :: a3 :: a4 :: a5 :: a6 :: a7 :: a8 :: a9 :: a10 :: b :: r) H QS = QS (a0 :: a1 :: a2 :: a3 :: a4 :: a5 :: a6 :: a7 :: a8 :: a9 :: a10 :: some v :: r) H := rfl
theorem v12 {a0 a1 a2 a3 a4 a5 a6 a7 a8 a9 a10 a11 : Option V} {v : V} {r : St} : tVar 12 (a0 :: a1 :: a2 :: a3 :: a4 :: a5 :: a6 :: a7 :: a8 :: a9 :: a10 :: a11 :: some v :: r) H Q = Q v H := propext ⟨fun ⟨_, e, q⟩ => by cases e; exact q, fun q => ⟨v, rfl, q⟩⟩
theorem g12 {a0 a1 a2 a3 a4 a5 a6 a7 a8 a9 a10 a11 b : Option V} {v : V} {r : St} : gName 12 v (a0 :: a1 :: a2 :: a3 :: a4 :: a5 :: a6 :: a7 :: a8 :: a9 :: a10 :: a11 :: b :: r) H QS = QS (a0 :: a1 :: a2 :: a3 :: a4 :: a5 :: a6 :: a7 :: a8 :: a9 :: a10 :: a11 :: some v :: r) H := rfl
theorem v13 {a0 a1 a2 a3 a4 a5 a6 a7 a8 a9 a10 a11 a12 : Option V} {v : V} {r : St} : tVar 13 (a0 :: a1 :: a2 :: a3 :: a4 :: a5 :: a6 :: a7 :: a8 :: a9 :: a10 :: a11 :: a12 :: some v :: r) H Q = Q v H := propext ⟨fun ⟨_, e, q⟩ => by cases e; exact q, fun q => ⟨v, rfl, q⟩⟩
theorem g13 {a0 a1 a2 a3 a4 a5 a6 a7 a8 a9 a10 a11 a12 b : Option V} {v : V} {r : St} : gName 13 v (a0 :: a1 :: a2 :: a3 :: a4 :: a5 :: a6 :: a7 :: a8 :: a9 :: a10 :: a11 :: a12 :: b :: r) H QS = QS (a0 :: a1 :: a2 :: a3 :: a4 :: a5 :: a6 :: a7 :: a8 :: a9 :: a10 :: a11 :: a12 :: some v :: r) H := rfl
theorem v14 {a0 a1 a2 a3 a4 a5 a6 a7 a8 a9 a10 a11 a12 a13 : Option V} {v : V} {r : St} : tVar 14 (a0 :: a1 :: a2 :: a3 :: a4 :: a5 :: a6 :: a7 :: a8 :: a9 :: a10 :: a11 :: a12 :: a13 :: some v :: r) H Q = Q v H := propext ⟨fun ⟨_, e, q⟩ => by cases e; exact q, fun q => ⟨v, rfl, q⟩⟩
theorem g14 {a0 a1 a2 a3 a4 a5 a6 a7 a8 a9 a10 a11 a12 a13 b : Option V} {v : V} {r : St} : gName 14 v (a0 :: a1 :: a2 :: a3 :: a4 :: a5 :: a6 :: a7 :: a8 :: a9 :: a10 :: a11 :: a12 :: a13 :: b :: r) H QS = QS (a0 :: a1 :: a2 :: a3 :: a4 :: a5 :: a6 :: a7 :: a8 :: a9 :: a10 :: a11 :: a12 :: a13 :: some v :: r) H := rfl
theorem v15 {a0 a1 a2 a3 a4 a5 a6 a7 a8 a9 a10 a11 a12 a13 a14 : Option V} {v : V} {r : St} : tVar 15 (a0 :: a1 :: a2 :: a3 :: a4 :: a5 :: a6 :: a7 :: a8 :: a9 :: a10 :: a11 :: a12 :: a13 :: a14 :: some v :: r) H Q = Q v H := propext ⟨fun ⟨_, e, q⟩ => by cases e; exact q, fun q => ⟨v, rfl, q⟩⟩
theorem g15 {a0 a1 a2 a3 a4 a5 a6 a7 a8 a9 a10 a11 a12 a13 a14 b : Option V} {v : V} {r : St} : gName 15 v (a0 :: a1 :: a2 :: a3 :: a4 :: a5 :: a6 :: a7 :: a8 :: a9 :: a10 :: a11 :: a12 :: a13 :: a14 :: b :: r) H QS = QS (a0 :: a1 :: a2 :: a3 :: a4 :: a5 :: a6 :: a7 :: a8 :: a9 :: a10 :: a11 :: a12 :: a13 :: a14 :: some v :: r) H := rfl
theorem v16 {a0 a1 a2 a3 a4 a5 a6 a7 a8 a9 a10 a11 a12 a13 a14 a15 : Option V} {v : V} {r : St} : tVar 16 (a0 :: a1 :: a2 :: a3 :: a4 :: a5 :: a6 :: a7 :: a8 :: a9 :: a10 :: a11 :: a12 :: a13 :: a14 :: a15 :: some v :: r) H Q = Q v H := propext ⟨fun ⟨_, e, q⟩ => by cases e; exact q, fun q => ⟨v, rfl, q⟩⟩
theorem g16 {a0 a1 a2 a3 a4 a5 a6 a7 a8 a9 a10 a11 a12 a13 a14 a15 b : Option V} {v : V} {r : St} : gName 16 v (a0 :: a1 :: a2 :: a3 :: a4 :: a5 :: a6 :: a7 :: a8 :: a9 :: a10 :: a11 :: a12 :: a13 :: a14 :: a15 :: b :: r) H QS = QS (a0 :: a1 :: a2 :: a3 :: a4 :: a5 :: a6 :: a7 :: a8 :: a9 :: a10 :: a11 :: a12 :: a13 :: a14 :: a15 :: some v :: r) H := rfl
theorem v17 {a0 a1 a2 a3 a4 a5 a6 a7 a8 a9 a10 a11 a12 a13 a14 a15 a16 : Option V} {v : V} {r : St} : tVar 17 (a0 :: a1 :: a2 :: a3 :: a4 :: a5 :: a6 :: a7 :: a8 :: a9 :: a10 :: a11 :: a12 :: a13 :: a14 :: a15 :: a16 :: some v :: r) H Q = Q v H := propext ⟨fun ⟨_, e, q⟩ => by cases e; exact q, fun q => ⟨v, rfl, q⟩⟩
theorem g17 {a0 a1 a2 a3 a4 a5 a6 a7 a8 a9 a10 a11 a12 a13 a14 a15 a16 b : Option V} {v : V} {r : St} : gName 17 v (a0 :: a1 :: a2 :: a3 :: a4 :: a5 :: a6 :: a7 :: a8 :: a9 :: a10 :: a11 :: a12 :: a13 :: a14 :: a15 :: a16 :: b :: r) H QS = QS (a0 :: a1 :: a2 :: a3 :: a4 :: a5 :: a6 :: a7 :: a8 :: a9 :: a10 :: a11 :: a12 :: a13 :: a14 :: a15 :: a16 :: some v :: r) H := rfl
theorem v18 {a0 a1 a2 a3 a4 a5 a6 a7 a8 a9 a10 a11 a12 a13 a14 a15 a16 a17 : Option V} {v : V} {r : St} : tVar 18 (a0 :: a1 :: a2 :: a3 :: a4 :: a5 :: a6 :: a7 :: a8 :: a9 :: a10 :: a11 :: a12 :: a13 :: a14 :: a15 :: a16 :: a17 :: some v :: r) H Q = Q v H := propext ⟨fun ⟨_, e, q⟩ => by cases e; exact q, fun q => ⟨v, rfl, q⟩⟩
theorem g18 {a0 a1 a2 a3 a4 a5 a6 a7 a8 a9 a10 a11 a12 a13 a14 a15 a16 a17 b : Option V} {v : V} {r : St} : gName 18 v (a0 :: a1 :: a2 :: a3 :: a4 :: a5 :: a6 :: a7 :: a8 :: a9 :: a10 :: a11 :: a12 :: a13 :: a14 :: a15 :: a16 :: a17 :: b :: r) H QS = QS (a0 :: a1 :: a2 :: a3 :: a4 :: a5 :: a6 :: a7 :: a8 :: a9 :: a10 :: a11 :: a12 :: a13 :: a14 :: a15 :: a16 :: a17 :: some v :: r) H := rfl
theorem v19 {a0 a1 a2 a3 a4 a5 a6 a7 a8 a9 a10 a11 a12 a13 a14 a15 a16 a17 a18 : Option V} {v : V} {r : St} : tVar 19 (a0 :: a1 :: a2 :: a3 :: a4 :: a5 :: a6 :: a7 :: a8 :: a9 :: a10 :: a11 :: a12 :: a13 :: a14 :: a15 :: a16 :: a17 :: a18 :: some v :: r) H Q = Q v H := propext ⟨fun ⟨_, e, q⟩ => by cases e; exact q, fun q => ⟨v, rfl, q⟩⟩
theorem g19 {a0 a1 a2 a3 a4 a5 a6 a7 a8 a9 a10 a11 a12 a13 a14 a15 a16 a17 a18 b : Option V} {v : V} {r : St} : gName 19 v (a0 :: a1 :: a2 :: a3 :: a4 :: a5 :: a6 :: a7 :: a8 :: a9 :: a10 :: a11 :: a12 :: a13 :: a14 :: a15 :: a16 :: a17 :: a18 :: b :: r) H QS = QS (a0 :: a1 :: a2 :: a3 :: a4 :: a5 :: a6 :: a7 :: a8 :: a9 :: a10 :: a11 :: a12 :: a13 :: a14 :: a15 :: a16 :: a17 :: a18 :: some v :: r) H := rfl
theorem v20 {a0 a1 a2 a3 a4 a5 a6 a7 a8 a9 a10 a11 a12 a13 a14 a15 a16 a17 a18 a19 : Option V} {v : V} {r : St} : tVar 20 (a0 :: a1 :: a2 :: a3 :: a4 :: a5 :: a6 :: a7 :: a8 :: a9 :: a10 :: a11 :: a12 :: a13 :: a14 :: a15 :: a16 :: a17 :: a18 :: a19 :: some v :: r) H Q = Q v H := propext ⟨fun ⟨_, e, q⟩ => by cases e; exact q, fun q => ⟨v, rfl, q⟩⟩
theorem g20 {a0 a1 a2 a3 a4 a5 a6 a7 a8 a9 a10 a11 a12 a13 a14 a15 a16 a17 a18 a19 b : Option V} {v : V} {r : St} : gName 20 v (a0 :: a1 :: a2 :: a3 :: a4 :: a5 :: a6 :: a7 :: a8 :: a9 :: a10 :: a11 :: a12 :: a13 :: a14 :: a15 :: a16 :: a17 :: a18 :: a19 :: b :: r) H QS = QS (a0 :: a1 :: a2 :: a3 :: a4 :: a5 :: a6 :: a7 :: a8 :: a9 :: a10 :: a11 :: a12 :: a13 :: a14 :: a15 :: a16 :: a17 :: a18 :: a19 :: some v :: r) H := rfl
theorem v21 {a0 a1 a2 a3 a4 a5 a6 a7 a8 a9 a10 a11 a12 a13 a14 a15 a16 a17 a18 a19 a20 : Option V} {v : V} {r : St} : tVar 21 (a0 :: a1 :: a2 :: a3 :: a4 :: a5 :: a6 :: a7 :: a8 :: a9 :: a10 :: a11 :: a12 :: a13 :: a14 :: a15 :: a16 :: a17 :: a18 :: a19 :: a20 :: some v :: r) H Q = Q v H := propext ⟨fun ⟨_, e, q⟩ => by cases e; exact q, fun q => ⟨v, rfl, q⟩⟩
theorem g21 {a0 a1 a2 a3 a4 a5 a6 a7 a8 a9 a10 a11 a12 a13 a14 a15 a16 a17 a18 a19 a20 b : Option V} {v : V} {r : St} : gName 21 v (a0 :: a1 :: a2 :: a3 :: a4 :: a5 :: a6 :: a7 :: a8 :: a9 :: a10 :: a11 :: a12 :: a13 :: a14 :: a15 :: a16 :: a17 :: a18 :: a19 :: a20 :: b :: r) H QS = QS (a0 :: a1 :: a2 :: a3 :: a4 :: a5 :: a6 :: a7 :: a8 :: a9 :: a10 :: a11 :: a12 :: a13 :: a14 :: a15 :: a16 :: a17 :: a18 :: a19 :: a20 :: some v :: r) H := rfl
theorem v22 {a0 a1 a2 a3 a4 a5 a6 a7 a8 a9 a10 a11 a12 a13 a14 a15 a16 a17 a18 a19 a20 a21 : Option V} {v : V} {r : St} : tVar 22 (a0 :: a1 :: a2 :: a3 :: a4 :: a5 :: a6 :: a7 :: a8 :: a9 :: a10 :: a11 :: a12 :: a13 :: a14 :: a15 :: a16 :: a17 :: a18 :: a19 :: a20 :: a21 :: some v :: r) H Q = Q v H := propext ⟨fun ⟨_, e, q⟩ => by cases e; exact q, fun q => ⟨v, rfl, q⟩⟩
theorem g22 {a0 a1 a2 a3 a4 a5 a6 a7 a8 a9 a10 a11 a12 a13 a14 a15 a16 a17 a18 a19 a20 a21 b : Option V} {v : V} {r : St} : gName 22 v (a0 :: a1 :: a2 :: a3 :: a4 :: a5 :: a6 :: a7 :: a8 :: a9 :: a10 :: a11 :: a12 :: a13 :: a14 :: a15 :: a16 :: a17 :: a18 :: a19 :: a20 :: a21 :: b :: r) H QS = QS (a0 :: a1 :: a2 :: a3 :: a4 :: a5 :: a6 :: a7 :: a8 :: a9 :: a10 :: a11 :: a12 :: a13 :: a14 :: a15 :: a16 :: a17 :: a18 :: a19 :: a20 :: a21 :: some v :: r) H := rfl
theorem v23 {a0 a1 a2 a3 a4 a5 a6 a7 a8 a9 a10 a11 a12 a13 a14 a15 a16 a17 a18 a19 a20 a21 a22 : Option V} {v : V} {r : St} : tVar 23 (a0 :: a1 :: a2 :: a3 :: a4 :: a5 :: a6 :: a7 :: a8 :: a9 :: a10 :: a11 :: a12 :: a13 :: a14 :: a15 :: a16 :: a17 :: a18 :: a19 :: a20 :: a21 :: a22 :: some v :: r) H Q = Q v H := propext ⟨fun ⟨_, e, q⟩ => by cases e; exact q, fun q => ⟨v, rfl, q⟩⟩
theorem g23 {a0 a1 a2 a3 a4 a5 a6 a7 a8 a9 a10 a11 a12 a13 a14 a15 a16 a17 a18 a19 a20 a21 a22 b : Option V} {v : V} {r : St} : gName 23 v (a0 :: a1 :: a2 :: a3 :: a4 :: a5 :: a6 :: a7 :: a8 :: a9 :: a10 :: a11 :: a12 :: a13 :: a14 :: a15 :: a16 :: a17 :: a18 :: a19 :: a20 :: a21 :: a22 :: b :: r) H QS = QS (a0 :: a1 :: a2 :: a3 :: a4 :: a5 :: a6 :: a7 :: a8 :: a9 :: a10 :: a11 :: a12 :: a13 :: a14 :: a15 :: a16 :: a17 :: a18 :: a19 :: a20 :: a21 :: a22 :: some v :: r) H := rfl
def isB (QB : Bool → Hp → Prop) : VK := fun x H => ∃ k, x = .bl k ∧ QB k H
theorem isB_bl {k : Bool} : isB QB (.bl k) H = QB k H := propext ⟨fun ⟨_, e, q⟩ => by cases e; exact q, fun q => ⟨k, rfl, q⟩⟩
theorem cxK {CX : CXT} {P : Program} {w : World} {K : PySem.W.Frag} {mg : Str → Option Value} {base : Heap} {N : List Str} {qual : Str} {scope : Scope} {f : Addr} {cd : Value} {A : Around} {outer : List Env} {s : Shared} {E : XK} : (cxOf CX P w K mg base N qual scope f cd A outer s H E).K = K := rfl
theorem nab10 : Int.natAbs 10 = 10 := rfl
theorem nab2 : Int.natAbs 2 = 2 := rfl
theorem seq {t u : TS} : tSeq t u D σ H = t { D with nx := u D } σ H := rfl
theorem nxt : tNext D σ H = D.nx σ H := rfl
theorem brk : tBreak D σ H = D.bk σ H := rfl
theorem cnt : tCont D σ H = D.ct σ H := rfl
theorem drp {te : TE} : tDrop te D σ H = te σ H fun _ H1 => D.nx σ H1 := rfl
theorem ret {te : TE} : tRet te D σ H = te σ H D.rt := rfl
theorem retN : tRetN D σ H = D.rt .non H := rfl
theorem ifS {c : TT} {t u : TS} : tIfS c t u D σ H = c σ H fun b H1 => if b = true then t D σ H1 else u D σ H1 := rfl
theorem asg {te : TE} {g : TG} : tAsg te g D σ H = te σ H fun x H1 => g x σ H1 D.nx := rfl
theorem cst {v : V} : tC v σ H Q = Q v H := rfl
theorem op {r : R2} {ta tb : TE} : tOp r ta tb σ H Q = ta σ H fun x H1 => tb σ H1 fun y H2 => r x y H2 Q := rfl
theorem I0 {g : Int → Int → V} {i j : Int} : rI0 g (.int i) (.int j) H Q = Q (g i j) H := propext ⟨fun ⟨_, _, e, f, q⟩ => by cases e; cases f; exact q, fun q => ⟨i, j, rfl, rfl, q⟩⟩
theorem I1 {C : Int → Int → Prop} {g : Int → Int → V} {i j : Int} : rI C g (.int i) (.int j) H Q = (C i j ∧ Q (g i j) H) := propext ⟨fun ⟨_, _, e, f, c, q⟩ => by cases e; cases f; exact ⟨c, q⟩, fun ⟨c, q⟩ => ⟨i, j, rfl, rfl, c, q⟩⟩
theorem eqI {i j : Int} : rEq (.int i) (.int j) H Q = Q (.bl (decide (i = j))) H := by
  unfold rEq; simp [scal, V.int.injEq]
theorem neI {i j : Int} : rNe (.int i) (.int j) H Q = Q (.bl (!decide (i = j))) H := by
  unfold rNe; simp [scal, V.int.injEq]
theorem eqS {i j : Str} : rEq (.str i) (.str j) H Q = Q (.bl (decide (i = j))) H := by
  unfold rEq; simp [scal, V.str.injEq]
theorem neS {i j : Str} : rNe (.str i) (.str j) H Q = Q (.bl (!decide (i = j))) H := by
  unfold rNe; simp [scal, V.str.injEq]
theorem eqB {i j : Bool} : rEq (.bl i) (.bl j) H Q = Q (.bl (decide (i = j))) H := by
  unfold rEq; simp [scal, V.bl.injEq]
theorem neB {i j : Bool} : rNe (.bl i) (.bl j) H Q = Q (.bl (!decide (i = j))) H := by
  unfold rNe; simp [scal, V.bl.injEq]
theorem un {r : V → Hp → VK → Prop} {ta : TE} : tUn r ta σ H Q = ta σ H fun x H1 => r x H1 Q := rfl
theorem U {g : Int → V} {i : Int} : rU g (.int i) H Q = Q (g i) H := propext ⟨fun ⟨_, e, q⟩ => by cases e; exact q, fun q => ⟨i, rfl, q⟩⟩
theorem tst {t : TE} : tTest t σ H QB = t σ H (isB QB) := rfl
theorem tb {t : TE} : tB t σ H QB = t σ H (isB QB) := rfl
theorem and {t u : TT} : tAnd t u σ H QB = t σ H fun c H1 => if c = true then u σ H1 QB else QB false H1 := rfl
theorem or {t u : TT} : tOr t u σ H QB = t σ H fun c H1 => if c = true then QB true H1 else u σ H1 QB := rfl
theorem not {t : TT} : tNot t σ H QB = t σ H fun c H1 => QB (!c) H1 := rfl
theorem andV {ta tb : TE} : tAndV ta tb σ H Q = ta σ H (isB fun c H1 => if c = true then tb σ H1 Q else Q (.bl false) H1) := rfl
theorem orV {ta tb : TE} : tOrV ta tb σ H Q = ta σ H (isB fun c H1 => if c = true then Q (.bl true) H1 else tb σ H1 Q) := rfl
theorem notV {ta : TE} : tNotV ta σ H Q = ta σ H (isB fun c H1 => Q (.bl (!c)) H1) := rfl
theorem tif {t : TT} {ta tb : TE} : tIf t ta tb σ H Q = t σ H fun c H1 => if c = true then ta σ H1 Q else tb σ H1 Q := rfl
theorem tifC {t : TT} {a b : Int} : tIfC t a b σ H Q = t σ H fun c H1 => Q (.int (if c = true then a else b)) H1 := rfl
theorem chn {r r' : R2} {ta tb tc : TE} : tChain r r' ta tb tc σ H Q = ta σ H fun x H1 => tb σ H1 fun y H2 => r x y H2 (isB fun k H3 => if k = true then tc σ H3 fun w' H4 => r' y w' H4 Q else Q (.bl false) H3) := rfl
theorem nil : tNil σ H QA = QA [] H := rfl
theorem cons {ta : TE} {tr : TA} : tCons ta tr σ H QA = ta σ H fun x H1 => tr σ H1 fun xs H2 => QA (x :: xs) H2 := rfl
theorem cb {r : List V → Hp → VK → Prop} {t : TA} : tCB r t σ H Q = t σ H fun vs H1 => r vs H1 Q := rfl
theorem call {sp : Sp} {E : XK} {t : TA} : tCall sp [] E t σ H Q = t σ H fun vs H1 => sp vs H1 Q E := by unfold tCall; simp only [List.append_nil]
theorem lst {t : TA} : tLst t σ H Q = t σ H fun xs H1 => xs.length ≤ sizeLine ∧ ∀ p, H1 p = none → Q (.ref p) (upd H1 p (.lst xs)) := rfl
theorem tup {t : TA} : tTup t σ H Q = t σ H fun xs H1 => xs.length ≤ sizeLine ∧ ∀ p, H1 p = none → Q (.ref p) (upd H1 p (.tup xs)) := rfl
def tabQ (kvs : List (Key × V)) (Q : VK) : VK := fun y H1 => ∃ k v, y = kV k ∧ valV kvs k = some v ∧ Q v H1
theorem tabE {kvs : List (Key × V)} {ti : TE} : tTab kvs ti σ H Q = ti σ H (tabQ kvs Q) := rfl
theorem tabI {kvs : List (Key × V)} {i : Int} : tabQ kvs Q (.int i) H = ∃ v, valV kvs (.inl i) = some v ∧ Q v H := propext ⟨fun ⟨k, v, e, l, q⟩ => match k, e, l with
  | .inl _, rfl, l => ⟨v, l, q⟩, fun ⟨v, l, q⟩ => ⟨.inl i, v, rfl, l, q⟩⟩
theorem tabS {kvs : List (Key × V)} {i : Str} : tabQ kvs Q (.str i) H = ∃ v, valV kvs (.inr i) = some v ∧ Q v H := propext ⟨fun ⟨k, v, e, l, q⟩ => match k, e, l with
  | .inr _, rfl, l => ⟨v, l, q⟩, fun ⟨v, l, q⟩ => ⟨.inr i, v, rfl, l, q⟩⟩
theorem ixL {K : PySem.W.Frag} {p : Addr} {i : Int} : rIxL K (.ref p) (.int i) H Q = ∃ xs v, SqL K H p xs ∧ atI xs i = some v ∧ Q v H := propext ⟨fun ⟨_, xs, _, v, e, f, a, b, q⟩ => by cases e; cases f; exact ⟨xs, v, a, b, q⟩, fun ⟨xs, v, a, b, q⟩ => ⟨p, xs, i, v, rfl, rfl, a, b, q⟩⟩
theorem ixT {K : PySem.W.Frag} {p : Addr} {i : Int} : rIxT K (.ref p) (.int i) H Q = ∃ xs v, SqT K H p xs ∧ atI xs i = some v ∧ Q v H := propext ⟨fun ⟨_, xs, _, v, e, f, a, b, q⟩ => by cases e; cases f; exact ⟨xs, v, a, b, q⟩, fun ⟨xs, v, a, b, q⟩ => ⟨p, xs, i, v, rfl, rfl, a, b, q⟩⟩
def partQ (QO : Option Int → Hp → Prop) : VK := fun x H => ∃ i, x = .int i ∧ QO (some i) H
theorem part {t : TE} {QO : Option Int → Hp → Prop} : tPart t σ H QO = t σ H (partQ QO) := rfl
theorem cat {l b : Addr} : rCat (.ref l) (.ref b) H Q = ∃ xs zs, H l = some (.lst xs) ∧ H b = some (.lst zs) ∧ xs.length + zs.length ≤ sizeLine ∧ ∀ p, H p = none → Q (.ref p) (upd H p (.lst (xs ++ zs))) := propext ⟨fun ⟨_, _, xs, zs, e, f, a, b, c, q⟩ => by cases e; cases f; exact ⟨xs, zs, a, b, c, q⟩, fun ⟨xs, zs, a, b', c, q⟩ => ⟨l, b, xs, zs, rfl, rfl, a, b', c, q⟩⟩
def ForP (g : TG) (tb : TS) (D : Ends) (σ : St) (J : It) (H1 : Hp) : Prop := ∃ W : Nat → Nat → St → Hp → Prop, (∃ m, W 0 m σ H1) ∧ ∀ i m σ H, W i m σ H →
  (J.stop i H ∧ D.nx σ H) ∨ (J.go i H ∧ ∃ N : St → Hp → Prop, (∀ σ' H', N σ' H' → ∃ m', m' < m ∧ W (i + 1) m' σ' H') ∧ ∀ x H', J.yld i H x H' → g x σ H' fun σ2 H2 => tb { D with nx := N, ct := N, bk := D.nx } σ2 H2)
theorem frr {wi : TI} {g : TG} {tb : TS} : tFor wi g tb D σ H = wi σ H (ForP g tb D σ) := rfl
def CompP (m : Nat) (g : TG) (tc : TT) (te : TE) (σ : St) (Q : VK) (J : It) (H1 : Hp) : Prop :=
  ∃ W : Nat → Nat → List V → St → Hp → Prop, (∃ k, W 0 k [] (List.replicate m none ++ σ) H1) ∧ ∀ i k vs σ H, W i k vs σ H →
    (J.stop i H ∧ ∀ p, H p = none → Q (.ref p) (upd H p (.lst vs))) ∨
    (J.go i H ∧ vs.length < sizeLine ∧ ∃ N : List V → St → Hp → Prop, (∀ vs' σ' H', N vs' σ' H' → ∃ k', k' < k ∧ W (i + 1) k' vs' σ' H') ∧
      ∀ x H', J.yld i H x H' → g x σ H' fun σ2 H2 => tc σ2 H2 fun b H3 => if b = true then te σ2 H3 fun y H4 => N (vs ++ [y]) σ2 H4 else N vs σ2 H3)
theorem cmp {wi : TI} {m : Nat} {g : TG} {tc : TT} {te : TE} : tComp wi m g tc te σ H Q = wi σ H (CompP m g tc te σ Q) := rfl
def itQ (K : PySem.W.Frag) (R : It → Hp → Prop) : VK := fun x H1 => ∃ a, x = .ref a ∧ (∃ xs, SqL K H1 a xs) ∧ R (Itl K a) H1
theorem itl {K : PySem.W.Frag} {tl : TE} {R : It → Hp → Prop} : iList K tl σ H R = tl σ H (itQ K R) := rfl
theorem itlR {K : PySem.W.Frag} {R : It → Hp → Prop} {a : Addr} : itQ K R (.ref a) H = ((∃ xs, SqL K H a xs) ∧ R (Itl K a) H) := propext ⟨fun ⟨_, e, a, q⟩ => by cases e; exact ⟨a, q⟩, fun ⟨b, q⟩ => ⟨a, rfl, b, q⟩⟩
def ittQ (K : PySem.W.Frag) (R : It → Hp → Prop) : VK := fun x H1 => ∃ a, x = .ref a ∧ (∃ xs, SqT K H1 a xs) ∧ R (Itt K a) H1
theorem itt {K : PySem.W.Frag} {tl : TE} {R : It → Hp → Prop} : iTup K tl σ H R = tl σ H (ittQ K R) := rfl
theorem ittR {K : PySem.W.Frag} {R : It → Hp → Prop} {a : Addr} : ittQ K R (.ref a) H = ((∃ xs, SqT K H a xs) ∧ R (Itt K a) H) := propext ⟨fun ⟨_, e, a, q⟩ => by cases e; exact ⟨a, q⟩, fun ⟨b, q⟩ => ⟨a, rfl, b, q⟩⟩
def rgQ (R : It → Hp → Prop) : List V → Hp → Prop := fun vs H1 => ∃ j : Int, vs = [.int j] ∧ -(2 ^ 62) ≤ j ∧ j < 2 ^ 62 ∧ R (Itr 0 j.toNat) H1
theorem rg {ta : TA} {R : It → Hp → Prop} : iRng1 ta σ H R = ta σ H (rgQ R) := rfl
theorem rgI {R : It → Hp → Prop} {j : Int} : rgQ R [.int j] H = (-(2 ^ 62) ≤ j ∧ j < 2 ^ 62 ∧ R (Itr 0 j.toNat) H) := propext ⟨fun ⟨_, e, a, b, q⟩ => by cases e; exact ⟨a, b, q⟩, fun ⟨a, b, q⟩ => ⟨j, rfl, a, b, q⟩⟩
theorem lenL {K : PySem.W.Frag} {p : Addr} : rLen K [.ref p] H Q = ∃ ys, (SqL K H p ys ∨ SqT K H p ys) ∧ Q (.int ys.length) H := rfl
theorem lenS {K : PySem.W.Frag} {z : Str} : rLen K [.str z] H Q = (z.length ≤ sizeLine ∧ Q (.int z.length) H) := rfl
theorem listOf {K : PySem.W.Frag} {p : Addr} : rListOf K [.ref p] H Q = ∃ ys, (SqL K H p ys ∨ SqT K H p ys) ∧ ∀ l, H l = none → Q (.ref l) (upd H l (.lst ys)) := rfl
theorem bm {K : PySem.W.Frag} {T : String} {r : V → List V → Hp → VK → Prop} {to : TE} {t : TA} : tBM K T r to t σ H Q = to σ H fun x H1 => tyV K T x H1 ∧ t σ H1 fun xs H2 => r x xs H2 Q := rfl
theorem app {l : Addr} {y : V} : rAppend (.ref l) [y] H Q = ∃ xs, H l = some (.lst xs) ∧ xs.length < sizeLine ∧ Q .non (upd H l (.lst (xs ++ [y]))) := propext ⟨fun ⟨_, xs, _, e, f, a, b, q⟩ => by cases e; cases f; exact ⟨xs, a, b, q⟩, fun ⟨xs, a, b, q⟩ => ⟨l, xs, y, rfl, rfl, a, b, q⟩⟩
theorem inSeq {K : PySem.W.Frag} {x : V} {p : Addr} : rIn K false x (.ref p) H Q = ∃ xs, (SqL K H p xs ∨ SqT K H p xs) ∧ flatV x = true ∧ xs.all flatV = true ∧ Q (.bl (inV x xs)) H := propext ⟨fun ⟨_, xs, e, a, b, c, q⟩ => by cases e; exact ⟨xs, a, b, c, q⟩, fun ⟨xs, a, b, c, q⟩ => ⟨p, xs, rfl, a, b, c, q⟩⟩
theorem eqD {K : PySem.W.Frag} {x y : V} : rEqD K false x y H Q = ∃ d e, DatV K H x d ∧ DatV K H y e ∧ SeqAt.shaped d = true ∧ SeqAt.shaped e = true ∧ SeqAt.noMix d e = true ∧ Q (.bl (same d e)) H := rfl
theorem neD {K : PySem.W.Frag} {x y : V} : rEqD K true x y H Q = ∃ d e, DatV K H x d ∧ DatV K H y e ∧ SeqAt.shaped d = true ∧ SeqAt.shaped e = true ∧ SeqAt.noMix d e = true ∧ Q (.bl (!same d e)) H := rfl
theorem sub {to ti : TE} {t : TSet} {v : V} {QS : St → Hp → Prop} : gSub to ti t v σ H QS = to σ H fun o H1 => ti σ H1 fun i H2 => t o i v H2 fun H3 => QS σ H3 := rfl
theorem setL {p : Addr} {k : Int} {v : V} {QH : Hp → Prop} : rSetL (.ref p) (.int k) v H QH = ∃ xs j, H p = some (.lst xs) ∧ ixN xs.length k = some j ∧ QH (upd H p (.lst (xs.set j v))) := propext ⟨fun ⟨_, xs, _, j, e, f, a, b, q⟩ => by cases e; cases f; exact ⟨xs, j, a, b, q⟩, fun ⟨xs, j, a, b, q⟩ => ⟨p, xs, k, j, rfl, rfl, a, b, q⟩⟩
theorem gtup {K : PySem.W.Frag} {n : Nat} {t : TGs} {a : Addr} {QS : St → Hp → Prop} : gTup K n t (.ref a) σ H QS = ∃ xs, SqT K H a xs ∧ xs.length = n ∧ t xs σ H QS := propext ⟨fun ⟨_, xs, e, b, c, q⟩ => by cases e; exact ⟨xs, b, c, q⟩, fun ⟨xs, b, c, q⟩ => ⟨a, xs, rfl, b, c, q⟩⟩
theorem gnil {QS : St → Hp → Prop} : gNil [] σ H QS = QS σ H := propext ⟨fun ⟨_, q⟩ => q, fun q => ⟨rfl, q⟩⟩
theorem gcons {t : TG} {u : TGs} {v : V} {r : List V} {QS : St → Hp → Prop} : gCons t u (v :: r) σ H QS = t v σ H fun σ' H' => u r σ' H' QS := propext ⟨fun ⟨_, _, e, q⟩ => by cases e; exact q, fun q => ⟨v, r, rfl, q⟩⟩
theorem all {QB : Bool → Hp → Prop} : tAll σ H QB = QB true H := rfl
end
end Rd
end L2
set_option Elab.async false
set_option linter.all false
set_option maxRecDepth 100000
set_option maxHeartbeats 4000000
/-! A list unpacked; the rules within a comprehension's block (what hangs on the module's part is the context's own). -/
namespace L2
open PySem PySem.Spec PyProof.Rows
section
variable {prog : Program} {w : World} {A : Around} {E : Value → Shared → Prop} {s : Shared}
end
section
variable {X : Cx} {pos : Pos}
end
/-! ### within a block -/
theorem BlkOk.ofS {X : Cx} {tn M N : List Str} {scope sc : Scope} (hs : X.env.scope = sc) (hN : X.N = N) (hk : scope.kind = .function) (h : blkOk (fun x => sc.names.lookup x) N M scope = true) : BlkOk X tn M scope :=
  BlkOk.of hk (by rw [hN]; have e : X.env.kindOf = fun x => sc.names.lookup x := by rw [← hs]; rfl
                  rw [e]; exact h)
section
variable {X : Cx} {N' : List Str} {scope : Scope} {C : Addr} {s₀ : Shared} {H₀ : Hp} {ex : List Addr}
end
/-! ### a new object, the heap behind it a letter -/
structure New (H : Hp) (p : Addr) (o : HO) (H2 : Hp) : Prop where
  nw : H p = none
  at' : H2 p = some o
  same : Same H H2
  els : ∀ b, b ≠ p → H2 b = H b
theorem New.of {H : Hp} {p : Addr} {o : HO} (h : H p = none) : New H p o (upd H p o) := ⟨h, upd_same, Same.upd h, fun _ hb => upd_ne hb⟩
/-- a tracked list is written -/
structure Wrt (H : Hp) (p : Addr) (o : HO) (H2 : Hp) : Prop where
  at' : H2 p = some o
  els : ∀ b, b ≠ p → H2 b = H b
theorem Wrt.of {H : Hp} {p : Addr} {o : HO} : Wrt H p o (upd H p o) := ⟨upd_same, fun _ hb => upd_ne hb⟩
/-- all but p is as it was -/
def SameX (p : Addr) (H H' : Hp) : Prop := ∀ b o, b ≠ p → H b = some o → H' b = some o
section
variable {X : Cx} {e : Expr} {es : List Expr} {t : TA} {pos : Pos}
def tLstA (t : TA) : TE := fun σ H Q => t σ H fun xs H1 => xs.length ≤ sizeLine ∧ ∀ p H2, New H1 p (.lst xs) H2 → Q (.ref p) H2
def tTupA (t : TA) : TE := fun σ H Q => t σ H fun xs H1 => xs.length ≤ sizeLine ∧ ∀ p H2, New H1 p (.tup xs) H2 → Q (.ref p) H2
theorem pe_lstA (h : PA X es t) : PE X (.List es pos) (tLstA t) := by
  intro pins s σ H Q I hq
  refine wpAny_List_spliced (thn (h pos pins s σ H _ I hq) fun us s1 ⟨xs, H1, I1, r, z, q⟩ => ⟨by rw [← r.length]; exact z, ?_⟩)
  have hf : H1 s1.heap.objs.size = none := I1.hok.fresh (Nat.le_refl _)
  refine ⟨.ref s1.heap.objs.size, upd H1 s1.heap.objs.size (.lst xs), I1.laid (t' := s1.toks) (fun b u e => Heap.get?_push_of_some _ e) (Nat.le_refl _) ?_, rfl, q _ _ (New.of hf)⟩
  exact ⟨z, us, 0, r, Heap.get?_push_size _ rfl⟩
theorem pe_tupA {x1} (h : PA X es t) : PE X (.Tuple es x1 pos) (tTupA t) := by
  intro pins s σ H Q I hq
  refine wpAny_Tuple_spliced (thn (h pos pins s σ H _ I hq) fun us s1 ⟨xs, H1, I1, r, z, q⟩ => ⟨by rw [← r.length]; exact z, ?_⟩)
  have hf : H1 s1.heap.objs.size = none := I1.hok.fresh (Nat.le_refl _)
  refine ⟨.ref s1.heap.objs.size, upd H1 s1.heap.objs.size (.tup xs), I1.laid (t' := s1.toks) (fun b u e => Heap.get?_push_of_some _ e) (Nat.le_refl _) ?_, rfl, q _ _ (New.of hf)⟩
  exact ⟨z, us, r, ⟨_, Heap.get?_push_size _ rfl, rfl, _, rfl⟩⟩
def rCatA : R2 := fun x y H Q => ∃ l b xs zs, x = .ref l ∧ y = .ref b ∧ H l = some (.lst xs) ∧ H b = some (.lst zs) ∧ xs.length + zs.length ≤ sizeLine ∧ ∀ p H2, New H p (.lst (xs ++ zs)) H2 → Q (.ref p) H2
theorem op_catA : OpR X (binaryOp .Add) rCatA := by
  intro pins s σ H x y v u Q I rx ry h
  obtain ⟨l, b, xs, zs, e1, e2, a, b', c, q⟩ := h
  exact op_cat pins s σ H x y v u Q I rx ry ⟨l, b, xs, zs, e1, e2, a, b', c, fun p hp => q p _ (New.of hp)⟩
def rRepA : R2 := fun x y H Q => ∃ l k xs, x = .ref l ∧ y = .int k ∧ H l = some (.lst xs) ∧ -(2 ^ 63) ≤ k ∧ k < 2 ^ 63 ∧ xs.length * k.toNat ≤ sizeLine ∧ ∀ p H2, New H p (.lst (List.replicate k.toNat xs).flatten) H2 → Q (.ref p) H2
theorem op_repA : OpR X (binaryOp .Mult) rRepA := by
  intro pins s σ H x y v u Q I rx ry h
  obtain ⟨l, k, xs, e1, e2, a, b, c, d, q⟩ := h
  exact op_rep pins s σ H x y v u Q I rx ry ⟨l, k, xs, e1, e2, a, b, c, d, fun p hp => q p _ (New.of hp)⟩
def rListOfA (K : PySem.W.Frag) : List V → Hp → VK → Prop
  | [.ref p], H, Q => ∃ ys, (SqL K H p ys ∨ SqT K H p ys) ∧ ∀ l H2, New H l (.lst ys) H2 → Q (.ref l) H2
  | _, _, _ => False
def rAppendA : V → List V → Hp → VK → Prop
  | .ref l, [y], H, Q => ∃ xs, H l = some (.lst xs) ∧ xs.length < sizeLine ∧ ∀ H2, Wrt H l (.lst (xs ++ [y])) H2 → Q .non H2
  | _, _, _, _ => False
theorem mt_appendA : MtM X "list.append" rAppendA := by
  intro pins s σ H x vs v us Q I rx rv h
  match x, vs, h with
  | .ref l, [y], ⟨xs, a, b, q⟩ => exact mt_append pins s σ H _ _ v us Q I rx rv ⟨l, xs, y, rfl, rfl, a, b, q _ Wrt.of⟩
def rSetA : V → V → V → Hp → (Hp → Prop) → Prop
  | .ref p, .int k, v, H, Q => ∃ xs j, H p = some (.lst xs) ∧ ixN xs.length k = some j ∧ ∀ H2, Wrt H p (.lst (xs.set j v)) H2 → Q H2
  | _, _, _, _, _ => False
variable {N' : List Str} {scope : Scope} {C : Addr} {s₀ : Shared} {H₀ : Hp} {ex : List Addr}
end
section
variable {g : TG} {tc : TT} {te : TE} {Q : VK} {σ : St} {H : Hp} {m : Nat}
theorem compA_tup {K : PySem.W.Frag} {a : Addr} (xs : List V) (Pv : Nat → List V → St → Hp → Prop) (h0 : Pv 0 [] (List.replicate m none ++ σ) H) (hl : ∀ i vs σ H, i ≤ xs.length → Pv i vs σ H → SqT K H a xs) (hz : xs.length ≤ sizeLine) (hn : ∀ i vs σ H, Pv i vs σ H → vs.length ≤ i)
    (hs : ∀ i x vs σ H, xs[i]? = some x → Pv i vs σ H → g x σ H fun σ2 H2 => tc σ2 H2 fun b H3 => if b = true then te σ2 H3 fun y H4 => Pv (i + 1) (vs ++ [y]) σ2 H4 else Pv (i + 1) vs σ2 H3)
    (hd : ∀ vs σ H, Pv xs.length vs σ H → ∀ p H2, New H p (.lst vs) H2 → Q (.ref p) H2) : Rd.CompP m g tc te σ Q (Itt K a) H :=
  comp_tup (xs := xs) Pv h0 hl hz hn hs fun vs σ H pv p hp => hd vs σ H pv p _ (New.of hp)
theorem compA_range {lo : Int} {n : Nat} (Pv : Nat → List V → St → Hp → Prop) (h0 : Pv 0 [] (List.replicate m none ++ σ) H) (hz : n ≤ sizeLine) (hn : ∀ i vs σ H, Pv i vs σ H → vs.length ≤ i)
    (hs : ∀ i vs σ H, i < n → Pv i vs σ H → g (.int (lo + i)) σ H fun σ2 H2 => tc σ2 H2 fun b H3 => if b = true then te σ2 H3 fun y H4 => Pv (i + 1) (vs ++ [y]) σ2 H4 else Pv (i + 1) vs σ2 H3)
    (hd : ∀ vs σ H, Pv n vs σ H → ∀ p H2, New H p (.lst vs) H2 → Q (.ref p) H2) : Rd.CompP m g tc te σ Q (Itr lo n) H :=
  comp_range Pv h0 hz hn hs fun vs σ H pv p hp => hd vs σ H pv p _ (New.of hp)
end
theorem shL_ints (l : List Int) : SeqAt.shaped (.list (l.map PyData.int)) = true := by
  simp [SeqAt.shaped, PyData.canLay0, PyData.depth, PySem.W.ke_canLayAll0, PySem.W.ke_depthAll]
theorem mixInts : ∀ l m : List Int, SeqAt.noMixAll (l.map PyData.int) (m.map PyData.int) = true
  | [], [] => by simp [SeqAt.noMixAll]
  | [], _ :: _ => by simp [SeqAt.noMixAll]
  | _ :: _, [] => by simp [SeqAt.noMixAll]
  | _ :: r, _ :: q => by simp [SeqAt.noMixAll, SeqAt.noMix, mixInts r q]
theorem mixL_ints (l m : List Int) : SeqAt.noMix (.list (l.map PyData.int)) (.list (m.map PyData.int)) = true := by simp only [SeqAt.noMix]; exact mixInts l m
/-- what was there ahead of the new one stays when the new one is written -/
theorem Wrt.same {H H1 H2 : Hp} {p : Addr} {o : HO} (w : Wrt H1 p o H2) (s : Same H H1) (h : H p = none) : Same H H2 := fun b u e => by
  rw [w.els b (ne_of_none e h)]
  exact s b u e
theorem datInts {K : PySem.W.Frag} {H : Hp} : ∀ l : List Int, DatVs K H (l.map V.int) (l.map PyData.int)
  | [] => .nil
  | x :: l => .cons (.int x) (datInts l)
namespace Rd
section
variable {σ : St} {H : Hp} {Q : VK}
theorem lstA {t : TA} : tLstA t σ H Q = t σ H fun xs H1 => xs.length ≤ sizeLine ∧ ∀ p H2, New H1 p (.lst xs) H2 → Q (.ref p) H2 := rfl
theorem tupA {t : TA} : tTupA t σ H Q = t σ H fun xs H1 => xs.length ≤ sizeLine ∧ ∀ p H2, New H1 p (.tup xs) H2 → Q (.ref p) H2 := rfl
theorem catA {l b : Addr} : rCatA (.ref l) (.ref b) H Q = ∃ xs zs, H l = some (.lst xs) ∧ H b = some (.lst zs) ∧ xs.length + zs.length ≤ sizeLine ∧ ∀ p H2, New H p (.lst (xs ++ zs)) H2 → Q (.ref p) H2 := propext ⟨fun ⟨_, _, xs, zs, e, f, a, b, c, q⟩ => by cases e; cases f; exact ⟨xs, zs, a, b, c, q⟩, fun ⟨xs, zs, a, b', c, q⟩ => ⟨l, b, xs, zs, rfl, rfl, a, b', c, q⟩⟩
theorem repA {l : Addr} {k : Int} : rRepA (.ref l) (.int k) H Q = ∃ xs, H l = some (.lst xs) ∧ -(2 ^ 63) ≤ k ∧ k < 2 ^ 63 ∧ xs.length * k.toNat ≤ sizeLine ∧ ∀ p H2, New H p (.lst (List.replicate k.toNat xs).flatten) H2 → Q (.ref p) H2 := propext ⟨fun ⟨_, _, xs, e, f, a, b, c, d, q⟩ => by cases e; cases f; exact ⟨xs, a, b, c, d, q⟩, fun ⟨xs, a, b, c, d, q⟩ => ⟨l, k, xs, rfl, rfl, a, b, c, d, q⟩⟩
theorem listA {K : PySem.W.Frag} {p : Addr} : rListOfA K [.ref p] H Q = ∃ ys, (SqL K H p ys ∨ SqT K H p ys) ∧ ∀ l H2, New H l (.lst ys) H2 → Q (.ref l) H2 := rfl
theorem appA {l : Addr} {y : V} : rAppendA (.ref l) [y] H Q = ∃ xs, H l = some (.lst xs) ∧ xs.length < sizeLine ∧ ∀ H2, Wrt H l (.lst (xs ++ [y])) H2 → Q .non H2 := rfl
theorem setA {p : Addr} {k : Int} {v : V} {QH : Hp → Prop} : rSetA (.ref p) (.int k) v H QH = ∃ xs j, H p = some (.lst xs) ∧ ixN xs.length k = some j ∧ ∀ H2, Wrt H p (.lst (xs.set j v)) H2 → QH H2 := rfl
end
theorem glst {K : PySem.W.Frag} {n : Nat} {t : TGs} {a : Addr} {σ : St} {H : Hp} {QS : St → Hp → Prop} : gLst K n t (.ref a) σ H QS = ∃ xs, SqL K H a xs ∧ xs.length = n ∧ t xs σ H QS := propext ⟨fun ⟨_, xs, e, b, c, q⟩ => by cases e; exact ⟨xs, b, c, q⟩, fun ⟨xs, b, c, q⟩ => ⟨a, xs, rfl, b, c, q⟩⟩
theorem cxKn {X : Cx} : X.nox.K = X.K := rfl
end Rd
end L2
set_option Elab.async false
set_option linter.all false
set_option maxRecDepth 100000
set_option maxHeartbeats 4000000
/-! COMPREHENSIONS of one name and no test, by what holds of each item; lists and tuples that stay. -/
namespace L2
open PySem PySem.Spec PyProof.Rows
section
variable {te : TE} {Q : VK} {σ : St} {H : Hp}
end
/-! lists and tuples through the heaps that follow one another -/
section
variable {K : PySem.W.Frag} {H H1 H2 : Hp} {p q : Addr} {o : HO} {xs : List V}
theorem sq_at (n : New H p (.lst xs) H2) : SqL K H2 p xs := SqL.of n.at'
theorem sq_new (n : New H q o H2) (h : SqL K H p xs) : SqL K H2 p xs := n.same.seq h
theorem sq_same (n : Same H H2) (h : SqL K H p xs) : SqL K H2 p xs := n.seq h
theorem st_at (n : New H p (.tup xs) H2) : SqT K H2 p xs := SqT.of n.at'
theorem st_new (n : New H q o H2) (h : SqT K H p xs) : SqT K H2 p xs := n.same.seqT h
theorem st_same (n : Same H H2) (h : SqT K H p xs) : SqT K H2 p xs := n.seqT h
theorem sm_new (n : New H1 q o H2) (h : Same H H1) : Same H H2 := h.trans n.same
theorem sm_same (n : Same H1 H2) (h : Same H H1) : Same H H2 := h.trans n
theorem at_new (n : New H q o H2) {u : HO} (h : H p = some u) : H2 p = some u := n.same _ _ h
theorem at_same (n : Same H H2) {u : HO} (h : H p = some u) : H2 p = some u := n _ _ h
theorem at_at (n : New H p o H2) : H2 p = some o := n.at'
end
end L2
set_option Elab.async false
set_option linter.all false
set_option maxRecDepth 100000
set_option maxHeartbeats 4000000
/-! OBJECTS: a method by the class that the instance has, making an instance, isinstance with an own class; texts joined and split. -/
namespace L2
open PySem PySem.Spec PyProof.Rows
/-- a method of the class at C, by its promise -/
structure MCal (P : Program) (w : World) (K : PySem.W.Frag) (mg : Str → Option Value) (base : Heap) (C : Addr) (m : Str) (k : Nat) (sp : Sp) : Prop where
  cl : Cls K C
  ex : ∃ (f : Addr) (fd : FuncData) (ps : List Str), FnOk P w K mg base CX0 k f fd ps sp ∧ Meth K C m f ∧ Binds K fd ps []
def tMethC (P : Program) (w : World) (K : PySem.W.Frag) (mg : Str → Option Value) (base : Heap) (m : Str) (k : Nat) (ta : TE) (t : TA) : TE := fun σ H Q => ta σ H fun x H1 =>
  ∃ a C dx fs sp, x = .ref a ∧ H1 a = some (.ins C dx fs) ∧ fs.lookup m = none ∧ MCal P w K mg base C m k sp ∧ t σ H1 fun vs H2 => sp (x :: vs) H2 Q E0
section
variable {X : Cx} {k : Nat} {m x : Str} {o e : Expr} {es : List Expr} {ta : TE} {t : TA} {p pos apos : Pos} {C : Addr} {sp : Sp}
theorem pe_methC {pl : Sem Bool} (he : PE X o ta) (hr : Room k X.A) (ha : PA X (e :: es) t)
    (hst : starEach (e :: es) X.env = (false, eval e X.env) :: starEach es X.env := by rfl) (hpl : (backTo pos (starEach es X.env)).any (·.1) = false := by rfl)
    (ht : eval (.Call (.Attribute o m apos) (e :: es) [] pos) X.env = (do
      let ov ← eval o X.env
      standAt apos.atName
      let (f, first) ← holding [ov] (getMethod ov m pl)
      callWith pos f first (backTo pos (starEach (e :: es) X.env)) (backToKw pos (keywordEach [] X.env))) := by rfl) :
    PE X (.Call (.Attribute o m apos) (e :: es) [] pos) (tMethC X.prog X.w X.K X.mg X.base m k ta t) := by
  intro pins s σ H Q I h
  refine PySem.W.methodCall_KW (pl := pl) (thn (he pins s σ H _ I h) fun u s1 ⟨x, H1, I1, rx, a, C, dx, fs, sp, ex, ea, l, ⟨c, f, fd, ps, F, hm, hb⟩, q⟩ => ?_) ht
  subst ex
  obtain rfl : u = Value.ref a := rx
  refine getmeth_ok I1 ea c hm l ?_
  refine PySem.W.callWith_K (first := [.ref a]) (h₀ := X.base) I.ok.mod.kin hm.kp (thn (ha pos pins s1 σ H1 _ I1 q) fun us s2 ⟨vs, H2, I2, r, q2⟩ => ⟨I2.kIn, ?_⟩) hst hpl
  exact run_fn (us := .ref a :: us) (vs := .ref a :: vs) (dvs := []) F hr hb .nil pass0 I2 (.cons rfl r) (by rw [List.append_nil]; exact q2)
/-- a new instance, the heap behind it a letter -/
structure NewI (H : Hp) (x dx C : Addr) (H2 : Hp) : Prop where
  nx : H x = none
  ndx : H dx = none
  ne : dx ≠ x
  at' : H2 x = some (.ins C dx [])
  same : Same H H2
  els : ∀ b, b ≠ x → b ≠ dx → H2 b = H b
theorem NewI.of {H : Hp} {x dx C : Addr} (h1 : H x = none) (h2 : H dx = none) (ne : dx ≠ x) : NewI H x dx C (upd (upd H dx (.own x)) x (.ins C dx [])) :=
  ⟨h1, h2, ne, upd_same, fun b u e => by rw [upd_ne (ne_of_none e h1), upd_ne (ne_of_none e h2)]; exact e, fun b a c => by rw [upd_ne a, upd_ne c]⟩
/-- a class that is made, by its __init__'s promise -/
structure KCal (P : Program) (w : World) (K : PySem.W.Frag) (mg : Str → Option Value) (base : Heap) (x : Str) (C : Addr) (k : Nat) (sp : Sp) : Prop where
  ex : ∃ (f : Addr) (fd : FuncData) (ps : List Str), Mk K C f ∧ FnOk P w K mg base CX0 k f fd ps sp ∧ mg x = some (.ref C) ∧ Binds K fd ps []
def tMakeC (C : Addr) (sp : Sp) (t : TA) : TE := fun σ H Q => t σ H fun vs H1 => ∀ x dx H2, NewI H1 x dx C H2 → sp (.ref x :: vs) H2 (fun v H3 => v = .non ∧ Q (.ref x) H3) E0
theorem pe_makeC (c : KCal X.prog X.w X.K X.mg X.base x C k sp) (hr : Room (k + 1) X.A) (ha : PA X (e :: es) t) (hg : Gl X x := by rfl) (hdb : (x == ("__debug__" : Str)) = false := by decide)
    (he : starEach (e :: es) X.env = (false, eval e X.env) :: starEach es X.env := by rfl) (hpl : (backTo pos (starEach es X.env)).any (·.1) = false := by rfl) :
    PE X (.Call (.Name x p) (e :: es) [] pos) (tMakeC C sp t) := by
  obtain ⟨f, fd, ps, M, F, hm, hb⟩ := c.ex
  intro pins s σ H Q I h
  refine wpAny_Call_Name_kw (ld_glob I hg hm ?_ hdb)
  refine PySem.W.callWith_K (h₀ := X.base) I.ok.mod.kin M.kp (thn (ha pos pins s σ H _ I h) fun us s1 ⟨vs, H1, I1, r, q⟩ => ⟨I1.kIn, ?_⟩) he hpl
  exact run_make (dvs := []) M F hr hb .nil pass0 I1 r fun x dx h1 h2 ne => by rw [List.append_nil]; exact q x dx _ (NewI.of h1 h2 ne)
/-- o.f = v, the heap behind it a letter -/
def sFldA (K : PySem.W.Frag) (ta tv : TE) (f : Str) : TS := fun D σ H => tv σ H fun y H1 => ta σ H1 fun x H2 => ∃ a C dx fs, x = .ref a ∧ H2 a = some (.ins C dx fs) ∧ Cls K C ∧ NoAttr K C f ∧ fs.length < 1000 ∧
  ∀ H3, Wrt H2 a (.ins C dx (putF f y fs)) H3 → D.nx σ H3
theorem ps_fldA {value : Expr} {f : Str} {pos' : Pos} {tv : TE} (ha : PE X o ta) (hv : PE X value tv) (hs : swapsWith value (some (.Attribute o f pos')) pos.line X.env = pure false) : PS X (.Assign [.Attribute o f pos'] value pos) (sFldA X.K ta tv f) := by
  intro pins s σ H D I h
  refine plainObj_wpAny_Assign_Attribute (thn (hv pins s σ H _ I h) fun u s1 ⟨y, H1, I1, ry, q⟩ => thn (ha pins s1 σ H1 _ I1 q) fun ov s2 ⟨x, H2, I2, rx, a, C, dx, fs, ex, ea, c, n, l, q2⟩ => ?_) hs
  subst ex
  obtain rfl : ov = Value.ref a := rx
  exact setattr_ok I2 ea c n l ry fun s3 I3 => ⟨σ, _, I3, q2 _ Wrt.of⟩
/-- what isinstance asks of an own class -/
structure InsOk (K : PySem.W.Frag) (C : Addr) : Prop where
  cl : Cls K C
  ha : PySem.W.findIn K (.ref C) "__class__" = some (some (.builtin "object.__class__"))
  hn : PySem.W.specialIn K (.builtin "object.__class__") "__get__" = some (some (.builtin "getset_descriptor.__get__"))
  htk : PySem.W.takesIn K (.builtin "object.__class__") = some true
  hm : PySem.W.mroIn K C (.type "object") = some true
/-- x.split(y), y not empty -/
def rSplit : V → List V → Hp → VK → Prop
  | .str z, [.str y], H, Q => z.length ≤ sizeLine ∧ (y.length == 0) = false ∧ (Builtin.Str.partsBetween z (Builtin.Str.occurrences z y 0 z.length (z.length + 1)) y.length).length ≤ sizeLine ∧
      ∀ p H2, New H p (.lst ((Txt.split z y).map V.str)) H2 → Q (.ref p) H2
  | _, _, _, _ => False
end
namespace Rd
section
variable {σ : St} {H : Hp} {Q : VK} {D : Ends}
def methQ (P : Program) (w : World) (K : PySem.W.Frag) (mg : Str → Option Value) (base : Heap) (m : Str) (k : Nat) (t : TA) (σ : St) (Q : VK) : VK := fun x H1 =>
  ∃ a C dx fs sp, x = .ref a ∧ H1 a = some (.ins C dx fs) ∧ fs.lookup m = none ∧ MCal P w K mg base C m k sp ∧ t σ H1 fun vs H2 => sp (x :: vs) H2 Q E0
theorem meC {P : Program} {w : World} {K : PySem.W.Frag} {mg : Str → Option Value} {base : Heap} {m : Str} {k : Nat} {ta : TE} {t : TA} : tMethC P w K mg base m k ta t σ H Q = ta σ H (methQ P w K mg base m k t σ Q) := rfl
theorem meQ {P : Program} {w : World} {K : PySem.W.Frag} {mg : Str → Option Value} {base : Heap} {m : Str} {k : Nat} {t : TA} {a : Addr} : methQ P w K mg base m k t σ Q (.ref a) H =
    ∃ C dx fs sp, H a = some (.ins C dx fs) ∧ fs.lookup m = none ∧ MCal P w K mg base C m k sp ∧ t σ H fun vs H2 => sp (.ref a :: vs) H2 Q E0 :=
  propext ⟨fun ⟨_, C, dx, fs, sp, e, a1, a2, a3, q⟩ => by cases e; exact ⟨C, dx, fs, sp, a1, a2, a3, q⟩, fun ⟨C, dx, fs, sp, a1, a2, a3, q⟩ => ⟨a, C, dx, fs, sp, rfl, a1, a2, a3, q⟩⟩
theorem mkC {C : Addr} {sp : Sp} {t : TA} : tMakeC C sp t σ H Q = t σ H fun vs H1 => ∀ x dx H2, NewI H1 x dx C H2 → sp (.ref x :: vs) H2 (fun v H3 => v = .non ∧ Q (.ref x) H3) E0 := rfl
def fldQ (K : PySem.W.Frag) (f : Str) (y : V) (D : Ends) (σ : St) : VK := fun x H2 => ∃ a C dx fs, x = .ref a ∧ H2 a = some (.ins C dx fs) ∧ Cls K C ∧ NoAttr K C f ∧ fs.length < 1000 ∧
  ∀ H3, Wrt H2 a (.ins C dx (putF f y fs)) H3 → D.nx σ H3
theorem sfA {K : PySem.W.Frag} {ta tv : TE} {f : Str} : sFldA K ta tv f D σ H = tv σ H fun y H1 => ta σ H1 (fldQ K f y D σ) := rfl
theorem sfQ {K : PySem.W.Frag} {f : Str} {y : V} {a : Addr} : fldQ K f y D σ (.ref a) H = ∃ C dx fs, H a = some (.ins C dx fs) ∧ Cls K C ∧ NoAttr K C f ∧ fs.length < 1000 ∧ ∀ H3, Wrt H a (.ins C dx (putF f y fs)) H3 → D.nx σ H3 :=
  propext ⟨fun ⟨_, C, dx, fs, e, q⟩ => by cases e; exact ⟨C, dx, fs, q⟩, fun ⟨C, dx, fs, q⟩ => ⟨a, C, dx, fs, rfl, q⟩⟩
def fdQ (K : PySem.W.Frag) (f : Str) (Q : VK) : VK := fun x H1 => ∃ a C dx fs v, x = .ref a ∧ H1 a = some (.ins C dx fs) ∧ Cls K C ∧ NoAttr K C f ∧ fs.lookup f = some v ∧ Q v H1
theorem fdE {K : PySem.W.Frag} {ta : TE} {f : Str} : tFld K ta f σ H Q = ta σ H (fdQ K f Q) := rfl
theorem fdR {K : PySem.W.Frag} {f : Str} {a : Addr} : fdQ K f Q (.ref a) H = ∃ C dx fs v, H a = some (.ins C dx fs) ∧ Cls K C ∧ NoAttr K C f ∧ fs.lookup f = some v ∧ Q v H :=
  propext ⟨fun ⟨_, C, dx, fs, v, e, q⟩ => by cases e; exact ⟨C, dx, fs, v, q⟩, fun ⟨C, dx, fs, v, q⟩ => ⟨a, C, dx, fs, v, rfl, q⟩⟩
theorem split {z y : Str} : rSplit (.str z) [.str y] H Q = (z.length ≤ sizeLine ∧ (y.length == 0) = false ∧ (Builtin.Str.partsBetween z (Builtin.Str.occurrences z y 0 z.length (z.length + 1)) y.length).length ≤ sizeLine ∧
      ∀ p H2, New H p (.lst ((Txt.split z y).map V.str)) H2 → Q (.ref p) H2) := rfl
end
end Rd
end L2
/-! ### classes of the text, checked at once -/
namespace L2
open PySem PySem.Spec PyProof.Rows
def clsOkB (K : PySem.W.Frag) (C : Addr) (ms : List (Str × Addr)) (fs : List Str) : Bool :=
  PySem.W.plainGet K C Str.empty && PySem.W.hasDictIn K C && PySem.W.plainOver K C && (PySem.W.findIn K (.ref C) "__setattr__" == some (some (.builtin "object.__setattr__")))
  && (PySem.W.findIn K (.ref C) "__class__" == some (some (.builtin "object.__class__"))) && (PySem.W.specialIn K (.builtin "object.__class__") "__get__" == some (some (.builtin "getset_descriptor.__get__")))
  && (PySem.W.takesIn K (.builtin "object.__class__") == some true) && (PySem.W.mroIn K C (.type "object") == some true) && PySem.W.makesIn K C && PySem.W.keepIn K (.ref C)
  && ms.all (fun p => PySem.W.findIn K (.ref C) p.1 == some (some (.ref p.2)) && PySem.W.isFn K (.ref p.2) && PySem.W.keepIn K (.ref p.2)) && fs.all (fun f => PySem.W.findIn K (.ref C) f == some none)
structure ClsOk (K : PySem.W.Frag) (C : Addr) (ms : List (Str × Addr)) (fs : List Str) : Prop where
  ins : InsOk K C
  mks : PySem.W.makesIn K C = true
  kp : PySem.W.keepIn K (.ref C) = true
  me : ∀ p ∈ ms, Meth K C p.1 p.2
  na : ∀ f ∈ fs, NoAttr K C f
theorem ClsOk.of {K : PySem.W.Frag} {C : Addr} {ms : List (Str × Addr)} {fs : List Str} (h : clsOkB K C ms fs = true) : ClsOk K C ms fs := by
  unfold clsOkB at h
  simp only [Bool.and_eq_true, List.all_eq_true, beq_iff_eq] at h
  obtain ⟨⟨⟨⟨⟨⟨⟨⟨⟨⟨⟨a, b⟩, c⟩, d⟩, e⟩, f⟩, g⟩, i⟩, j⟩, k⟩, l⟩, m⟩ := h
  exact ⟨⟨⟨a, b, c, d⟩, e, f, g, i⟩, j, k, fun p hp => let ⟨⟨x, y⟩, z⟩ := l p hp; ⟨x, y, z⟩, fun f hf => m f hf⟩
theorem ClsOk.made {K : PySem.W.Frag} {C f : Addr} {ms : List (Str × Addr)} {fs : List Str} (h : ClsOk K C ms fs) (hm : (("__init__" : Str), f) ∈ ms) : Mk K C f := ⟨h.mks, (h.me _ hm).at_, (h.me _ hm).fn, h.kp⟩
end L2
set_option Elab.async false
set_option linter.all false
set_option maxRecDepth 100000
set_option maxHeartbeats 4000000
/-! reversed(xs) walked, xs[::-1]. -/
namespace L2
open PySem PySem.Spec PyProof.Rows
/-- a list of n items from its end -/
def Itv (K : PySem.W.Frag) (a : Addr) (n : Nat) : It :=
  ⟨fun i H => ∃ xs x, SqL K H a xs ∧ xs.length = n ∧ xs.reverse[i]? = some x, fun i H x H' => H' = H ∧ ∀ xs, SqL K H a xs → xs.reverse[i]? = some x, fun i _ => i = n⟩
section
variable {X : Cx} {tg : Expr}
def iRev (K : PySem.W.Frag) (ta : TA) : TI := fun σ H R => ta σ H fun vs H1 => ∃ a xs, vs = [.ref a] ∧ SqL K H1 a xs ∧ R (Itv K a xs.length) H1
end
namespace Rd
section
variable {σ : St} {H : Hp} {Q : VK}
def rvQ (K : PySem.W.Frag) (R : It → Hp → Prop) : List V → Hp → Prop := fun vs H1 => ∃ a xs, vs = [.ref a] ∧ SqL K H1 a xs ∧ R (Itv K a xs.length) H1
theorem rv {K : PySem.W.Frag} {ta : TA} {R : It → Hp → Prop} : iRev K ta σ H R = ta σ H (rvQ K R) := rfl
end
end Rd
end L2
set_option Elab.async false
set_option linter.all false
set_option maxRecDepth 100000
set_option maxHeartbeats 4000000
/-! Texts put together, a sign of a text; lists of truths compared; rules within a block for methods. -/
namespace L2
open PySem PySem.Spec PyProof.Rows
section
variable {X : Cx}
end
namespace Rd
section
variable {H : Hp} {Q : VK}
end
end Rd
theorem New.sq {H H2 : Hp} {p : Addr} {o : HO} (n : New H p o H2) : Same H H2 := n.same
end L2
set_option Elab.async false
set_option linter.all false
set_option maxRecDepth 100000
set_option maxHeartbeats 4000000
/-! zip(a, b) walked by two names, each of a and b a list or a tuple. -/
namespace L2
open PySem PySem.Spec PyProof.Rows
section
variable {prog : Program} {w : World} {A : Around} {E : Value → Shared → Prop} {s : Shared}
end
section
variable {prog : Program} {w : World} {A : Around} {E : Value → Shared → Prop} {s : Shared}
end
section
variable {prog : Program} {w : World} {A : Around} {E : Value → Shared → Prop} {s : Shared}
end
section
variable {X : Cx} {pins : List (Addr × Obj)} {σ : St} {H : Hp} {s : Shared} {h' : Heap}
end
section
variable {X : Cx}
end
namespace Rd
section
variable {σ : St} {H : Hp}
end
end Rd
section
variable {te : TE} {Q : VK} {σ : St} {H : Hp}
end
section
variable {X : Cx} {pins : List (Addr × Obj)} {σ : St} {H H' : Hp} {s : Shared} {h' : Heap}
end
section
variable {X : Cx}
end
namespace Rd
section
variable {σ : St} {H : Hp} {Q : VK}
end
end Rd
section
variable {X : Cx}
end
namespace Rd
section
variable {H : Hp} {Q : VK}
end
end Rd
/-! a raise that is never reached -/
def sRaise : TS := fun _ _ _ => False
theorem ps_raise {X : Cx} {st : Stmt} : PS X st sRaise := fun _ _ _ _ _ _ h => False.elim h
namespace Rd
theorem rse {D : Ends} {σ : St} {H : Hp} : sRaise D σ H = False := rfl
end Rd
end L2
set_option Elab.async false
set_option linter.all false
set_option maxRecDepth 100000
set_option maxHeartbeats 4000000
/-! xs.extend(ys). -/
namespace L2
open PySem PySem.Spec PyProof.Rows
/-! t[lo:hi], also where that is t itself -/
section
variable {prog : Program} {w : World} {A : Around} {E : Value → Shared → Prop} {s : Shared}
end
namespace Rd
end Rd
end L2
set_option Elab.async false
set_option linter.all false
set_option maxRecDepth 100000
set_option maxHeartbeats 4000000
/-! PROMISES by the kinds of their arguments: no matcher is laid for each def. -/
namespace L2
open PySem PySem.Spec PyProof.Rows
inductive Kd where | i | r | s | b
def Kd.T : Kd → Type
  | .i => Int
  | .r => Addr
  | .s => Str
  | .b => Bool
def SpF : List Kd → Type
  | [] => Hp → VK → Prop
  | k :: ks => k.T → SpF ks
def spN : (ks : List Kd) → SpF ks → Sp
  | [], P, [], H, Q, _ => P H Q
  | .i :: ks, P, .int x :: vs, H, Q, E => spN ks (P x) vs H Q E
  | .r :: ks, P, .ref x :: vs, H, Q, E => spN ks (P x) vs H Q E
  | .s :: ks, P, .str x :: vs, H, Q, E => spN ks (P x) vs H Q E
  | .b :: ks, P, .bl x :: vs, H, Q, E => spN ks (P x) vs H Q E
  | _, _, _, _, _, _ => False
section
variable {ks : List Kd} {vs : List V} {H : Hp} {Q : VK} {E : XK}
theorem spN_nil {P : SpF []} (h : spN [] P vs H Q E) : vs = [] ∧ P H Q := match vs, h with
  | [], h => ⟨rfl, h⟩
theorem spN_i {P : SpF (.i :: ks)} (h : spN (.i :: ks) P vs H Q E) : ∃ (x : Int) (us : List V), vs = .int x :: us ∧ spN ks (P x) us H Q E := match vs, h with
  | .int x :: us, h => ⟨x, us, rfl, h⟩
theorem spN_r {P : SpF (.r :: ks)} (h : spN (.r :: ks) P vs H Q E) : ∃ (x : Addr) (us : List V), vs = .ref x :: us ∧ spN ks (P x) us H Q E := match vs, h with
  | .ref x :: us, h => ⟨x, us, rfl, h⟩
theorem spN_s {P : SpF (.s :: ks)} (h : spN (.s :: ks) P vs H Q E) : ∃ (x : Str) (us : List V), vs = .str x :: us ∧ spN ks (P x) us H Q E := match vs, h with
  | .str x :: us, h => ⟨x, us, rfl, h⟩
theorem spN_b {P : SpF (.b :: ks)} (h : spN (.b :: ks) P vs H Q E) : ∃ (x : Bool) (us : List V), vs = .bl x :: us ∧ spN ks (P x) us H Q E := match vs, h with
  | .bl x :: us, h => ⟨x, us, rfl, h⟩
theorem spN_len : ∀ {ks : List Kd} {P : SpF ks} {vs : List V}, spN ks P vs H Q E → vs.length = ks.length
  | [], P, vs, h => by rw [(spN_nil h).1]; rfl
  | .i :: ks, P, vs, h => by obtain ⟨x, us, rfl, h2⟩ := spN_i h; rw [List.length_cons, List.length_cons, spN_len h2]
  | .r :: ks, P, vs, h => by obtain ⟨x, us, rfl, h2⟩ := spN_r h; rw [List.length_cons, List.length_cons, spN_len h2]
  | .s :: ks, P, vs, h => by obtain ⟨x, us, rfl, h2⟩ := spN_s h; rw [List.length_cons, List.length_cons, spN_len h2]
  | .b :: ks, P, vs, h => by obtain ⟨x, us, rfl, h2⟩ := spN_b h; rw [List.length_cons, List.length_cons, spN_len h2]
end
example {w n : Int} {H : Hp} {Q : VK} {E : XK} : spN [.i, .i] (fun w n H Q => w = n ∧ Q (.int n) H) [.int w, .int n] H Q E = (w = n ∧ Q (.int n) H) := rfl
end L2
namespace SetX
open PySem
def Rise (l : List Nat) : Prop := l.Pairwise (· < ·)
theorem Rise.at {xs : Array Nat} (r : Rise xs.toList) {i k : Nat} (hi : i < xs.size) (hk : k < xs.size) (h : i < k) : xs[i] < xs[k] := by
  have := List.pairwise_iff_getElem.mp r i k (by simpa using hi) (by simpa using hk) h
  simpa using this
theorem Rise.at' {xs : Array Nat} (r : Rise xs.toList) {i k : Nat} (hi : i < xs.size) (hk : k < xs.size) (h : i ≤ k) : xs[i] ≤ xs[k] := by
  rcases Nat.lt_or_ge i k with q | q
  · exact Nat.le_of_lt (r.at hi hk q)
  · have e : i = k := Nat.le_antisymm h q
    subst e; exact Nat.le_refl _
theorem go_spec {xs : Array Nat} (j : Nat) (r : Rise xs.toList) : ∀ (f lo hi : Nat), hi ≤ xs.size → lo ≤ hi → hi - lo ≤ f → (∀ i (h : i < xs.size), i < lo → xs[i] < j) → (∀ i (h : i < xs.size), hi ≤ i → j ≤ xs[i]) →
    SetTable.below.go xs j f lo hi ≤ xs.size ∧ (∀ i (h : i < xs.size), i < SetTable.below.go xs j f lo hi → xs[i] < j) ∧ (∀ i (h : i < xs.size), SetTable.below.go xs j f lo hi ≤ i → j ≤ xs[i])
  | 0, lo, hi, h1, h2, h3, h4, h5 => by
    have e : lo = hi := by omega
    subst e
    exact ⟨h1, h4, h5⟩
  | f + 1, lo, hi, h1, h2, h3, h4, h5 => by
    unfold SetTable.below.go
    by_cases q : lo < hi
    · rw [if_pos q]
      have hm : (lo + hi) / 2 < xs.size := by omega
      have eg : xs.getD ((lo + hi) / 2) j = xs[(lo + hi) / 2] := by simp [Array.getD, hm]
      dsimp only
      rw [eg]
      by_cases z : xs[(lo + hi) / 2] < j
      · rw [if_pos z]
        refine go_spec j r f _ hi h1 (by omega) (by omega) (fun i h hl => ?_) h5
        exact Nat.lt_of_le_of_lt (r.at' h hm (by omega)) z
      · rw [if_neg z]
        refine go_spec j r f lo _ (by omega) (by omega) (by omega) h4 (fun i h hl => ?_)
        exact Nat.le_trans (Nat.le_of_not_lt z) (r.at' hm h hl)
    · rw [if_neg q]
      have e : lo = hi := by omega
      subst e
      exact ⟨h1, h4, h5⟩
theorem below_spec {xs : Array Nat} (j : Nat) (r : Rise xs.toList) :
    SetTable.below xs j ≤ xs.size ∧ (∀ i (h : i < xs.size), i < SetTable.below xs j → xs[i] < j) ∧ (∀ i (h : i < xs.size), SetTable.below xs j ≤ i → j ≤ xs[i]) :=
  go_spec j r xs.size 0 xs.size (Nat.le_refl _) (Nat.zero_le _) (Nat.le_refl _) (fun _ _ h => absurd h (Nat.not_lt_zero _)) (fun _ h q => absurd h (Nat.not_lt.mpr q))
def Dead (t : SetTable) (j : Nat) : Prop := ∀ i, t.slot j ≠ .live i
theorem Dead.out {t : SetTable} {j : Nat} (d : Dead t j) (r : Rise t.place.toList) : j ∉ t.place.toList := by
  intro hj
  obtain ⟨k, hk, e⟩ := List.getElem_of_mem hj
  have hk' : k < t.place.size := by simpa using hk
  have e' : t.place[k] = j := by simpa using e
  obtain ⟨b1, b2, b3⟩ := below_spec j r
  have kb : SetTable.below t.place j ≤ k := by
    rcases Nat.lt_or_ge k (SetTable.below t.place j) with q | q
    · exact absurd (b2 k hk' q) (by omega)
    · exact q
  have hb : SetTable.below t.place j < t.place.size := Nat.lt_of_le_of_lt kb hk'
  have e2 : t.place[SetTable.below t.place j] = j := Nat.le_antisymm (Nat.le_trans (r.at' hb hk' kb) (Nat.le_of_eq e')) (b3 _ hb (Nat.le_refl _))
  refine d (SetTable.below t.place j) ?_
  unfold SetTable.slot
  simp [Array.getElem?_eq_getElem hb, e2]
theorem probe_dead {t : SetTable} {f : Nat → Int} {h : Int} {j : Nat} {d : Option Nat} : ∀ (n : Nat) (p : SetTable.Probe), (∀ x, p.dummy = some x → Dead t x) → SetTable.probe.go t f h n p = some (.empty j d) → Dead t j ∧ ∀ x, d = some x → Dead t x
  | 0, p, _, e => by simp [SetTable.probe.go] at e
  | n + 1, p, hp, e => by
    unfold SetTable.probe.go at e
    have hadv : ∀ q : SetTable.Probe, (t.advance q).dummy = q.dummy := by
      intro q; unfold SetTable.advance; split <;> rfl
    split at e
    · rename_i es
      injection e with e
      injection e with e1 e2
      subst e1; subst e2
      exact ⟨fun i z => (by rw [es] at z; cases z), hp⟩
    · rename_i es
      refine probe_dead n _ (fun x hx => ?_) e
      rw [hadv] at hx
      injection hx with hx
      subst hx
      exact fun i z => by rw [es] at z; cases z
    · split at e
      · cases e
      · refine probe_dead n _ (fun x hx => ?_) e
        rw [hadv] at hx
        exact hp x hx
theorem free_dead {t : SetTable} {h : Int} {j : Nat} {b : Bool} (e : t.freeSlot h = some (j, b)) : Dead t j := by
  unfold SetTable.freeSlot at e
  split at e
  · rename_i k d hpr
    unfold SetTable.probe at hpr
    obtain ⟨a1, a2⟩ := probe_dead _ _ (fun x hx => by simp [SetTable.probeStart] at hx) hpr
    injection e with e
    injection e with e1 e2
    cases d with
    | none => simp at e1; subst e1; exact a1
    | some x => simp at e1; subst e1; exact a2 _ rfl
  · cases e
theorem put_rise {t : SetTable} {j : Nat} (r : Rise t.place.toList) (d : Dead t j) : Rise (t.put j).1.place.toList := by
  show Rise (SetTable.insertAt t.place (SetTable.below t.place j) j).toList
  rw [SetTable.toList_insertAt]
  obtain ⟨b1, b2, b3⟩ := below_spec j r
  have out := d.out r
  have rs : Rise (t.place.toList.take (SetTable.below t.place j) ++ t.place.toList.drop (SetTable.below t.place j)) := by rw [List.take_append_drop]; exact r
  obtain ⟨r1, r2, r3⟩ := List.pairwise_append.mp rs
  have lo : ∀ x ∈ t.place.toList.take (SetTable.below t.place j), x < j := by
    intro x hx
    obtain ⟨i, hi, e⟩ := List.getElem_of_mem hx
    rw [List.getElem_take] at e
    rw [List.length_take] at hi
    have := b2 i (by simp at hi; omega) (by omega)
    rw [← e]; simpa using this
  have hi : ∀ x ∈ t.place.toList.drop (SetTable.below t.place j), j < x := by
    intro x hx
    obtain ⟨i, hi, e⟩ := List.getElem_of_mem hx
    rw [List.getElem_drop] at e
    rw [List.length_drop] at hi
    have h1 := b3 (SetTable.below t.place j + i) (by simp at hi; omega) (by omega)
    have e' : t.place[SetTable.below t.place j + i]'(by simp at hi; omega) = x := by simpa using e
    rw [e'] at h1
    refine Nat.lt_of_le_of_ne h1 (fun z => out ?_)
    rw [z]; exact List.mem_of_mem_drop hx
  refine List.pairwise_append.mpr ⟨r1, List.pairwise_cons.mpr ⟨hi, r2⟩, fun x hx y hy => ?_⟩
  rcases List.mem_cons.mp hy with q | q
  · rw [q]; exact lo x hx
  · exact r3 x hx y q
def Good (t : SetTable) : Prop := t.plain = true → Rise t.place.toList
theorem Good.standIn (t : SetTable) (n : Nat) : Good (t.standIn n) := fun h => by simp [SetTable.standIn] at h
theorem layNew_good {t : SetTable} (es : Array (Int × Value)) (h : Int) (x : Value) (g : Good t) : Good (layNew t es h x).2.1 ∧ (layNew t es h x).2.1.led = t.led := by
  unfold layNew
  split
  · rename_i slot dm e
    have d := free_dead e
    dsimp only
    unfold SetTable.orStandIn
    split
    · exact ⟨fun hp => put_rise (g hp) d, rfl⟩
    · exact ⟨Good.standIn _ _, rfl⟩
  · exact ⟨Good.standIn _ _, rfl⟩
theorem laid_good {mask finger moves : Nat} {led plain : Bool} {hs : Array Int} {t : SetTable} {o : Array Nat} (e : SetTable.laid mask finger moves led plain hs = some (t, o)) : Good t ∧ t.led = led := by
  unfold SetTable.laid at e
  cases hc : SetTable.layClean mask hs with
  | none => rw [hc] at e; simp at e
  | some owner =>
    rw [hc] at e
    simp at e
    obtain ⟨e1, e2⟩ := e
    subst e1
    refine ⟨fun _ => ?_, rfl⟩
    show Rise (((List.range (mask + 1)).filterMap fun j => (owner[j]?.getD none).map (j, ·)).map (·.1)).toArray.toList
    rw [List.toList_toArray]
    refine List.pairwise_map.mpr (List.pairwise_filterMap.mpr ((List.pairwise_lt_range).imp ?_))
    intro a b hab p hp q hq
    cases ha : owner[a]?.getD none with
    | none => rw [ha] at hp; simp at hp
    | some u =>
      rw [ha] at hp
      cases hb : owner[b]?.getD none with
      | none => rw [hb] at hq; simp at hq
      | some v =>
        rw [hb] at hq
        simp at hp hq
        rw [← hp, ← hq]; exact hab
theorem relay_good {t : SetTable} (es : Array (Int × Value)) (n : Nat) : Good (relayAll t es n).2.1 ∧ (relayAll t es n).2.1.led = t.led := by
  unfold relayAll
  split
  · rename_i t' order e
    unfold SetTable.relaid at e
    have := laid_good e
    dsimp only
    split
    · exact this
    · exact ⟨Good.standIn _ _, rfl⟩
  · exact ⟨Good.standIn _ _, rfl⟩
end SetX
namespace SetX
open PySem PySem.Spec PyProof.Rows
set_option maxRecDepth 100000
def num : Value → Int
  | .int n _ => n
  | _ => 0
def AllI (l : List (Int × Value)) : Prop := ∀ e ∈ l, ∃ n t, e.2 = .int n t ∧ e.1 = hashInt n
def nums (l : List (Int × Value)) : List Int := l.map fun e => num e.2
def byText (w : World) : Bool := w.params.followText "set-order"
abbrev setO (es : Array (Int × Value)) (ep : Nat) (t : SetTable) : Obj := { cls := .type "set", dict := none, data := .set es ep t }
structure SetL (w : World) (h : Heap) (a : Addr) (es : Array (Int × Value)) (ep : Nat) (t : SetTable) : Prop where
  here : h.get? a = some (setO es ep t)
  all : AllI es.toList
  nd : (nums es.toList).Nodup
  few : es.size < scanBound
  fit : t.fits es.size = true
  led : t.led = !byText w
  good : Good t
theorem SetL.keep {w : World} {h h' : Heap} {a : Addr} {es : Array (Int × Value)} {ep : Nat} {t : SetTable} (S : SetL w h a es ep t) (e : ∀ o, h.get? a = some o → h'.get? a = some o) : SetL w h' a es ep t :=
  ⟨e _ S.here, S.all, S.nd, S.few, S.fit, S.led, S.good⟩
theorem AllI.elems {l : List (Int × Value)} (h : AllI l) (prog : Program) (w : World) : ElemsOf (intKind prog w) l := fun e he => by
  obtain ⟨n, t, e1, e2⟩ := h e he
  exact ⟨⟨n, by rw [e1]; exact intKind_is _ _ _ _, e2⟩, by rw [e1]; rfl⟩
theorem AllI.perm {l l' : List (Int × Value)} (h : AllI l) (p : l'.Perm l) : AllI l' := fun e he => h e (p.mem_iff.mp he)
theorem nums_perm {l l' : List (Int × Value)} (p : l'.Perm l) : (nums l').Perm (nums l) := p.map _
theorem AllI.is {l : List (Int × Value)} (h : AllI l) (prog : Program) (w : World) {e : Int × Value} (he : e ∈ l) (k : Int) : (intKind prog w).is k e.2 = decide (k = num e.2) := by
  obtain ⟨n, t, e1, _⟩ := h e he
  have z := KeyKind.is_eq_decide (knd := intKind prog w) (v := e.2) (k := n) (by rw [e1]; exact intKind_is _ _ _ _) k
  rw [z, e1]
  rfl
theorem AllI.ints {l : List (Int × Value)} (h : AllI l) : IntsAre (l.map (·.2)) (nums l) := by
  induction l with
  | nil => exact .nil
  | cons e l ih =>
    obtain ⟨n, t, e1, _⟩ := h e (.head _)
    have := ih fun x hx => h x (.tail _ hx)
    show IntsAre (e.2 :: l.map (·.2)) (num e.2 :: nums l)
    rw [e1]
    exact .cons n t this
theorem put_at {h : Heap} {a : Addr} {es : Array (Int × Value)} {ep : Nat} {t : SetTable} (e : h.get? a = some (setO es ep t)) (es' : Array (Int × Value)) (t' : SetTable) :
    (h.update a (Obj.putSet es' t')).get? a = some (setO es' (ep + 1) t') := by
  have z := Heap.get?_update_self (Obj.putSet es' t') e (by rw [putSet_of (es := es) (ep := ep) (t := t) es' t' rfl]; rfl)
  rw [putSet_of (es := es) (ep := ep) (t := t) es' t' rfl] at z
  exact z
section
variable {prog : Program} {w : World} {A : Around} {E : Value → Shared → Prop} {s : Shared}
theorem addL {a : Addr} {es : Array (Int × Value)} {ep : Nat} {t : SetTable} {k : Int} {tk : Tok} {Q : Bool → Shared → Prop} (S : SetL w s.heap a es ep t) (room : es.size + 1 < scanBound)
    (h : ∀ b m es' ep' t', Heap.SameBut a s.heap m → SetL w m a es' ep' t' → (∀ j, j ∈ nums es'.toList ↔ j ∈ nums es.toList ∨ j = k) → es'.size ≤ es.size + 1 → Q b { s with heap := m }) :
    wpAny (model prog w) A (setAddHashed a (.int k tk) (hashInt k)) Q E s := by
  have hel := S.all.elems prog w
  unfold setAddHashed setAddHashedIn
  refine wpAny_holding (wpAny_bind (wpAny_setState_of S.here rfl S.fit ?_))
  dsimp only
  rw [byScan_of (x := .int k tk) rfl S.few hel]
  simp only [↓reduceIte]
  unfold setAddByScan
  refine wpAny_bind (wpAny_bind (wpAny_rule ?_))
  refine wpAny_bind (wpAny_setScan_of (knd := intKind prog w) (k := k) (intKind_is _ _ _ _) S.here rfl S.fit hel ?_)
  cases hr : List.findIdx? (fun e => (intKind prog w).is k e.2) es.toList with
  | some j =>
    dsimp only
    obtain ⟨hj, hpj, _⟩ := List.findIdx?_eq_some_iff_getElem.mp hr
    rw [S.all.is prog w (List.getElem_mem hj), decide_eq_true_eq] at hpj
    refine wpAny_pure (wpAny_pure ?_)
    have e0 : s = { s with heap := s.heap } := by cases s; rfl
    rw [e0]
    refine h false s.heap es ep t (Heap.SameBut.refl a s.heap) S (fun j' => ⟨.inl, fun q => q.elim id fun q => ?_⟩) (Nat.le_succ _)
    rw [q, hpj]
    exact List.mem_map.mpr ⟨_, List.getElem_mem hj, rfl⟩
  | none =>
    dsimp only
    have hno : k ∉ nums es.toList := by
      intro q
      obtain ⟨e, he, e1⟩ := List.mem_map.mp q
      have z := List.findIdx?_eq_none_iff.mp hr e he
      rw [S.all.is prog w he, e1] at z
      simp at z
    have gw : ∀ (b : Bool) {s₁ : Shared} {Q' : Unit → Shared → Prop}, Q' () s₁ → wpAny (model prog w) A (match b with
        | true => rule "set.scan.the-table-gave-way"
        | false => pure ()) Q' E s₁ := fun b s₁ Q' q => by
      cases b
      · exact wpAny_pure q
      · exact wpAny_rule q
    have pe := layNew_perm t es (hashInt k) (.int k tk)
    have fi := layNew_fits t es (hashInt k) (.int k tk)
    have go := layNew_good (t := t) es (hashInt k) (.int k tk) S.good
    generalize layNew t es (hashInt k) (.int k tk) = L at pe fi go ⊢
    obtain ⟨es1, t1, wasDummy, gave⟩ := L
    dsimp only at pe fi go ⊢
    rw [Array.toList_push] at pe
    have pn : (nums es1.toList).Perm (nums es.toList ++ [k]) := by
      have := nums_perm pe
      rw [show nums (es.toList ++ [(hashInt k, Value.int k tk)]) = nums es.toList ++ [k] by simp [nums, num]] at this
      exact this
    have a1 : AllI es1.toList := by
      refine AllI.perm (fun e he => ?_) pe
      rcases List.mem_append.mp he with q | q
      · exact S.all e q
      · rw [List.mem_singleton] at q
        rw [q]; exact ⟨k, tk, rfl, rfl⟩
    have n1 : (nums es1.toList).Nodup := by
      refine pn.nodup_iff.mpr (List.nodup_append.mpr ⟨S.nd, by simp, fun x hx y hy => ?_⟩)
      rw [List.mem_singleton] at hy
      exact fun q => hno (by rw [← hy, ← q]; exact hx)
    have z1 : es1.size = es.size + 1 := by
      have := pe.length_eq
      simpa using this
    have m1 : ∀ j, j ∈ nums es1.toList ↔ j ∈ nums es.toList ∨ j = k := fun j => by rw [pn.mem_iff]; simp
    refine wpAny_bind (gw _ ?_)
    have tail : ∀ s₁ : Shared, s₁ = s → wpAny (model prog w) A (do
          storeSet a es1 t1
          if (!wasDummy && t1.tooFull) = true then do
              (match (relayAll t1 es1 (SetTable.grown es1.size)).2.2 with
                | true => rule "set.scan.the-table-gave-way"
                | false => pure ())
              storeSet a (relayAll t1 es1 (SetTable.grown es1.size)).1 (relayAll t1 es1 (SetTable.grown es1.size)).2.1
              pure (some true)
            else pure (some true)) (fun r s' => r = some true ∧ Q true s') E s₁ := by
      intro s₁ es₁
      subst es₁
      refine wpAny_bind (wpAny_storeSet_of S.here rfl ?_ (fits_of_scanBound (by omega)))
      have p1 := put_at S.here es1 t1
      have S1 : SetL w (s₁.heap.update a (Obj.putSet es1 t1)) a es1 (ep + 1) t1 := ⟨p1, a1, n1, by omega, fi, go.2.trans S.led, go.1⟩
      have b1 := Heap.SameBut.update s₁.heap a (Obj.putSet es1 t1)
      split
      · have rp := relayAll_perm t1 es1 (SetTable.grown es1.size)
        have rf := relayAll_fits t1 es1 (SetTable.grown es1.size)
        have rg := relay_good (t := t1) es1 (SetTable.grown es1.size)
        generalize relayAll t1 es1 (SetTable.grown es1.size) = L at rp rf rg ⊢
        obtain ⟨es2, t2, g2⟩ := L
        dsimp only at rp rf rg ⊢
        have z2 : es2.size = es1.size := by
          have := rp.length_eq
          simpa using this
        refine wpAny_bind (gw _ ?_)
        refine wpAny_bind (wpAny_storeSet_of p1 rfl ?_ (fits_of_scanBound (by omega)))
        refine wpAny_pure ⟨rfl, h true _ es2 (ep + 1 + 1) t2 (b1.trans (Heap.SameBut.update _ a _)) ⟨put_at p1 es2 t2, a1.perm rp, (nums_perm rp).nodup_iff.mpr n1, by omega, rf, rg.2.trans (go.2.trans S.led), rg.1⟩ (fun j => ?_) (by omega)⟩
        rw [(nums_perm rp).mem_iff]; exact m1 j
      · exact wpAny_pure ⟨rfl, h true _ es1 (ep + 1) t1 b1 S1 m1 (by omega)⟩
    split
    · refine wpAny_bind ?_
      rw [hashByValue_scannable 8 (x := .int k tk) rfl]
      refine wpAny_pure ?_
      rw [show plainKind (.int k tk) = true from rfl]
      simp only [↓reduceIte]
      refine wpAny_mono (tail s rfl) (fun r s' hr => ?_) fun _ _ z => z
      rw [hr.1]
      exact wpAny_pure hr.2
    · refine wpAny_bind (wpAny_pure ?_)
      simp only [↓reduceIte]
      refine wpAny_mono (tail s rfl) (fun r s' hr => ?_) fun _ _ z => z
      rw [hr.1]
      exact wpAny_pure hr.2
end
end SetX
namespace SetX
open PySem PySem.Spec PyProof.Rows
set_option maxRecDepth 100000
section
variable {prog : Program} {w : World} {A : Around} {R : Result → Shared → Prop} {I : Addr} {fp wr : List Addr} {G : Array GenState → Array GenState → Prop} {n : Nat} {P : Nat → Value → Prop} {St : Nat → Shared → Prop}
theorem loopL (W : WalksS prog w A.in1 I fp wr G n P St) (S : Addr) (hS : S ∉ fp) (val : Nat → Int) (hv : ∀ i v, P i v → ∃ t, v = .int (val i) t) (hb : n + 1 < scanBound) :
    ∀ (k i : Nat) (s : Shared) (es : Array (Int × Value)) (ep : Nat) (t : SetTable), n - i = k → i ≤ n → St i s → SetL w s.heap S es ep t → es.size ≤ i → (∀ j, j ∈ nums es.toList ↔ ∃ m, m < i ∧ val m = j) →
      (∀ s' es' ep' t', Moved (S :: wr) G s s' → SetL w s'.heap S es' ep' t' → es'.size ≤ n → (∀ j, j ∈ nums es'.toList ↔ ∃ m, m < n ∧ val m = j) → R (.ok (.ret .none)) s') →
      codeAny (model prog w) A (.builtin "set.update.loop" ⟨[.ref S, .ref I], []⟩) R s := by
  have hw : S ∉ wr := fun q => hS (W.sub _ q)
  have up : ∀ b ∈ wr, b ∈ S :: wr := fun b q => List.mem_cons_of_mem _ q
  intro k
  induction k with
  | zero =>
    intro i s es ep t hk hi st L hz hm hR
    have e : i = n := by omega
    subst e
    refine codeAny_builtin F.entry_set_update_loop ?_
    rw [Around.under_plainId F.plain_set_update_loop _]
    show wpAny _ A.in1 (pyNext (.ref I) >>= _) _ _ s
    refine wpAny_bind (W.done s _ _ st fun s' mv => ?_)
    show wpAny _ A.in1 (ret Value.none) _ _ s'
    exact wpAny_pure (hR s' es ep t (mv.mono up) (L.keep fun o q => mv.heap S o hw q) hz hm)
  | succ k ih =>
    intro i s es ep t hk hi st L hz hm hR
    have hlt : i < n := by omega
    refine codeAny_builtin F.entry_set_update_loop ?_
    rw [Around.under_plainId F.plain_set_update_loop _]
    show wpAny _ A.in1 (pyNext (.ref I) >>= _) _ _ s
    refine wpAny_bind (W.item i s _ _ hlt st fun v s' hP st' mv => ?_)
    obtain ⟨tk, rfl⟩ := hv i v hP
    have L' := L.keep fun o q => mv.heap S o hw q
    show wpAny _ A.in1 (holding [Value.int (val i) tk] (setAdd S (.int (val i) tk)) >>= _) _ _ s'
    refine wpAny_bind (wpAny_holding ?_)
    unfold setAdd
    refine wpAny_holding (wpAny_bind ((intKind prog w).pyHash (k := val i) (intKind_is _ _ _ _) ?_))
    refine addL (s := { s' with toks := s'.toks + 1 }) L' (by omega) fun b m es' ep' t' sb L2 m2 z2 => ?_
    refine wpAny_pure ⟨plainId_quiet F.plain_set_update_loop _, ih (i + 1) _ es' ep' t' (by omega) hlt (W.frame _ s' _ _ st' (Nat.le_succ _) fun b hb o e => ?_) L2 (by omega) (fun j => ?_) fun s'' es2 ep2 t2 mv2 L3 z3 m3 => ?_⟩
    · rw [sb.2 b fun q : b = S => hS (by rw [← q]; exact hb)]; exact e
    · rw [m2 j, hm j]
      constructor
      · rintro (⟨m, h1, h2⟩ | q)
        · exact ⟨m, by omega, h2⟩
        · exact ⟨i, by omega, q.symm⟩
      · rintro ⟨m, h1, h2⟩
        rcases Nat.lt_or_ge m i with q | q
        · exact .inl ⟨m, q, h2⟩
        · have : m = i := by omega
          subst this; exact .inr h2.symm
    · refine hR s'' es2 ep2 t2 (Moved.trans W.gtrans ((mv.mono up).then_heap (Nat.le_succ _) fun b o hb e => ?_) mv2) L3 z3 m3
      rw [sb.2 b fun q : b = S => hb (by rw [q]; exact List.mem_cons_self)]; exact e
end
section
variable {prog : Program} {w : World} {A : Around} {E : Value → Shared → Prop} {s : Shared}
abbrev new0 (w : World) : Obj := setO #[] 0 (.fresh 0 0 (!byText w))
theorem code_newL (a : Value) {Q₁ : Value → Shared → Prop} (h : Q₁ (.ref s.heap.objs.size) { s with heap := s.heap.push (new0 w) }) :
    codeAny (model prog w) A (.call (.builtin "set.__new__") ⟨[.type "set", a], []⟩) (wants Q₁ E) s := by
  refine codeAny_of_tree ?_
  show wpAny _ A.in1 (do
    checkBuiltinCall "set.__new__" ⟨[.type "set", a], []⟩
    again (.builtin "set.__new__" ⟨[.type "set", a], []⟩)) _ _ s
  refine wpAny_bind (wpAny_of_eq (F.newCall_set_1 a) ?_)
  refine wpAny_pure ⟨plainId_quiet F.plain_set_new _, codeAny_builtin F.entry_set_new ?_⟩
  rw [Around.under_plainId F.plain_set_new _]
  unfold Builtin.«set.__new__» Builtin.Frozenset.newClass
  have hsub := sub_set_self
  obtain ⟨hp, g, d, tk, os⟩ := s
  dsimp only
  wp_walk
  refine wpAny_askSetting (wpAny_pure ?_)
  dsimp only
  simp only [newObj]
  refine wpAny_bind (wpAny_alloc (wpAny_pure ?_))
  exact wpAny_pure h
theorem SetL.fresh (w : World) {h : Heap} {a : Addr} (e : h.get? a = some (new0 w)) : SetL w h a #[] 0 (.fresh 0 0 (!byText w)) :=
  ⟨e, fun _ q => by simp at q, List.nodup_nil, by decide, rfl, rfl, fun _ => List.Pairwise.nil⟩
set_option maxHeartbeats 3200000 in
theorem call_setL {l : Addr} {items : Array Value} {ns : List Int} {Q : Value → Shared → Prop} (hh : A.handled = none) (hl : s.heap.IsList l items) (hi : IntsAre items.toList ns) (hb : items.size + 1 < scanBound)
    (h : ∀ (m : Heap) (tk : Nat) (es : Array (Int × Value)) (ep : Nat) (t : SetTable), SetL w m s.heap.objs.size es ep t → es.size ≤ items.size → (∀ j, j ∈ nums es.toList ↔ j ∈ ns) →
      (∀ b o, b < s.heap.objs.size → s.heap.get? b = some o → m.get? b = some o) → s.toks ≤ tk → Q (.ref s.heap.objs.size) { s with heap := m, toks := tk }) :
    wpAny (model prog w) A (call (.type "set") [.ref l]) Q E s := by
  obtain ⟨c, tl, hmro⟩ := F.called_set.mro
  have hmade := F.called_set.made
  have hsub := F.called_set.sub
  refine wpAny_call (codeAny_of_tree ?_)
  show wpAny _ _ (callAny (.type "set") _) _ _ _
  refine wpAny_pure ⟨Code.quiet_builtin _ (by decide +kernel), ?_⟩
  refine codeAny_builtin F.entry_type_call ?_
  rw [Around.under_plain (weight_type_call_type "set" [.ref l] []) rfl]
  have h1 := F.called_set.notType
  have h2 := F.called_set.canCreate
  have hct := F.typeCall_set_1 (.ref l)
  repeat (any_goals (first | assumption | wp_step))
  refine codeAny_mono (code_newL (.ref l) (E := E) (Q₁ := fun obj s₁ => obj = .ref s.heap.objs.size ∧ s₁ = { s with heap := s.heap.push (new0 w) }) ⟨rfl, rfl⟩) fun r s₁ hr => ?_
  cases r with
  | error e => exact hr
  | ok fl =>
    cases fl with
    | ret obj =>
      obtain ⟨rfl, rfl⟩ := hr
      have g0 : (s.heap.push (new0 w)).get? s.heap.objs.size = some (new0 w) := Heap.get?_push_size _ rfl
      have hT : Shared.TypeIs { s with heap := s.heap.push (new0 w) } (.ref s.heap.objs.size) "set" := ⟨_, g0, rfl⟩
      have hli := F.called_set.init.lookup
      have hbi := F.called_set.init.bind (.ref s.heap.objs.size)
      repeat (any_goals (first | assumption | wp_step))
      refine codeAny_mono (codeAny_call_builtin (R := wants (fun r s₂ => r = .none ∧ ∃ m tk es ep t, s₂ = { s with heap := m, toks := tk } ∧ SetL w m s.heap.objs.size es ep t ∧ es.size ≤ items.size ∧ (∀ j, j ∈ nums es.toList ↔ j ∈ ns) ∧
          (∀ b o, b < s.heap.objs.size → s.heap.get? b = some o → m.get? b = some o) ∧ s.toks ≤ tk) E) F.called_set.init.plain F.entry_set_init (check_set_init_1 hT ?_)) fun r₂ s₂ hr₂ => ?_
      · obtain ⟨ol, hol, hcl, nl, hdl⟩ := hl
        obtain ⟨ocls, odict, odata, oslots⟩ := ol
        simp only at hcl hdl
        subst hcl; subst hdl
        have hol' : (s.heap.push (new0 w)).get? l = some { cls := .type "list", dict := odict, data := .seq items nl, slots := oslots } := Heap.get?_push_of_some _ hol
        have hsls := F.sub_list_set
        have hslf := F.sub_list_frozenset
        have hne : (Value.type "list" == Value.type "dict") = false := by decide
        have hl1 : (s.heap.push (new0 w)).IsList l items := ⟨_, hol', rfl, nl, rfl⟩
        unfold Builtin.«set.__init__» noKeywords Builtin.Frozenset.updateFrom
        generalize hPI : pyIter = PI
        wp_walk
        subst hPI
        refine wpAny_pyIter_list hl1 ?_
        refine wpAny_bind (wpAny_runValue ?_)
        have hls : l < s.heap.objs.size := Heap.lt_size hol
        have hh3 : A.in1.in1.in1.handled = none := by simp [hh]
        have nI : l ≠ (s.heap.push (new0 w)).objs.size := by rw [Heap.size_push]; exact Nat.ne_of_lt (Nat.lt_succ_of_lt hls)
        have nS : s.heap.objs.size ∉ [(s.heap.push (new0 w)).objs.size, l] := by
          rw [Heap.size_push]
          intro q
          rcases List.mem_cons.mp q with q | q
          · exact absurd q (Nat.ne_of_lt (Nat.lt_succ_self _))
          · rw [List.mem_singleton] at q
            exact absurd q (Nat.ne_of_gt hls)
        have hval : ∀ (i : Nat) (v : Value), items[i]? = some v → ∃ t, v = .int ((fun i => ns.getD i 0) i) t := fun i v hv => IntsAre.int_at hi i v (by rw [Array.getElem?_toList]; exact hv)
        have hlen : items.size = ns.length := by rw [← Array.length_toList]; exact IntsAre.length hi
        have g1 : ((s.heap.push (new0 w)).push { cls := .type "list_iterator", data := .fields #[.ref l, .int 0 0] }).get? s.heap.objs.size = some (new0 w) := Heap.get?_push_of_some _ g0
        refine loopL ((Walks.list hh3 _ l nI items).toS) s.heap.objs.size nS (fun i => ns.getD i 0) hval hb (items.size - 0) 0 _ #[] 0 _ (by omega) (Nat.zero_le _)
          ⟨⟨_, Heap.get?_push_size _ rfl, rfl, rfl⟩, (hl1.push _)⟩ (SetL.fresh w g1) (Nat.le_refl _) (fun j => by simp [nums]) ?_
        intro s' es ep t mv L z hm
        obtain ⟨m, g', d', tk', os'⟩ := s'
        have eg : g' = s.gens := mv.gens
        have ed : d' = s.drawn := mv.drawn
        have eo : os' = s.os := mv.os
        have et : s.toks ≤ tk' := mv.toks
        subst eg; subst ed; subst eo
        show wpAny _ _ _ _ _ _
        refine wpAny_pure ?_
        show wpAny _ _ (ret Value.none) _ _ _
        refine wpAny_pure ⟨rfl, m, tk', es, ep, t, rfl, L, z, fun j => ?_, fun b o hb e => ?_, et⟩
        · have eg : ∀ (i : Nat) (h : i < ns.length), ns.getD i 0 = ns[i] := fun i h => by simp [List.getD, h]
          rw [hm j, hlen]
          constructor
          · rintro ⟨i, h1, h2⟩
            rw [← h2, eg i h1]; exact List.getElem_mem h1
          · intro q
            obtain ⟨i, h1, h2⟩ := List.getElem_of_mem q
            exact ⟨i, h1, (eg i h1).trans h2⟩
        · refine mv.heap b o (fun q => ?_) (Heap.get?_push_of_some _ (Heap.get?_push_of_some _ e))
          rcases List.mem_cons.mp q with q | q
          · exact absurd q (Nat.ne_of_lt hb)
          · rw [List.mem_singleton, Heap.size_push] at q
            exact absurd q (Nat.ne_of_lt (Nat.lt_succ_of_lt hb))
      · cases r₂ with
        | error e => exact hr₂
        | ok fl₂ =>
          cases fl₂ with
          | ret r =>
            obtain ⟨rfl, m, tk, es, ep, t, rfl, L, z, hm, hk, ht⟩ := hr₂
            repeat (any_goals (first | assumption | wp_step))
            exact h _ _ es ep t L z hm hk ht
          | _ => exact hr₂.elim
    | _ => exact hr.elim
end
end SetX
namespace SetX
open PySem PySem.Spec PyProof.Rows
set_option maxRecDepth 100000
section
variable {prog : Program} {w : World} {A : Around} {E : Value → Shared → Prop} {s : Shared}
variable {a : Addr} {es : Array (Int × Value)} {ep : Nat} {t : SetTable}
end
end SetX
namespace SetX
open PySem PySem.Spec PyProof.Rows
set_option maxRecDepth 100000
section
variable {prog : Program} {w : World} {A : Around} {E : Value → Shared → Prop} {s : Shared} {a : Addr} {es : Array (Int × Value)} {ep : Nat} {t : SetTable}
end
end SetX
namespace SetX
open PySem PySem.Spec PyProof.Rows
set_option maxRecDepth 100000
section
variable {prog : Program} {w : World} {A : Around} {E : Value → Shared → Prop} {s : Shared} {a : Addr} {es : Array (Int × Value)} {ep : Nat} {t : SetTable}
end
end SetX
namespace SetX
open PySem PySem.Spec PyProof.Rows
set_option maxRecDepth 100000
section
variable {prog : Program} {w : World} {A : Around} {E : Value → Shared → Prop} {s : Shared} {a : Addr} {es : Array (Int × Value)} {ep : Nat} {t : SetTable}
end
end SetX
set_option Elab.async false
set_option linter.all false
set_option maxRecDepth 100000
set_option maxHeartbeats 4000000
/-! CLASSES WITH DEFAULTS AND KEYWORDS; x in a dict of the module; xs.clear() -/
namespace L2
open PySem PySem.Spec PyProof.Rows
structure FunD (K : PySem.W.Frag) (x qual : Str) (st : Stmt) (f : Addr) (fd : FuncData) (ds : List Value) : Prop where
  ex : ∃ (oc : Value) (od : Option Addr) (kV doc pm : Value) (an : Option Addr) (cdv ct : Value) (osl : Array (Option Value)) (T : Addr) (td : Option Addr) (n : Nat) (ts : Array (Option Value)),
    fd = PySem.W.fnOf x qual (defArgs st) (defBody st) (defScope st) (.ref T) kV doc pm an cdv ct ∧ K.lookup f = some ⟨oc, od, .func fd, osl⟩ ∧ PySem.W.codeIn K cdv qual = true ∧ K.lookup T = some ⟨.type "tuple", td, .seq ds.toArray n, ts⟩
  kp : PySem.W.keepIn K (.ref f) = true
section
variable {P : Program} {w : World} {K : PySem.W.Frag} {mg : Str → Option Value} {base : Heap}
theorem FunD.ok {x qual : Str} {st : Stmt} {f : Addr} {fd : FuncData} {ds : List Value} {N ps : List Str} {k : Nat} {sp : Sp} (F : FunD K x qual st f fd ds) (S : FnScope N ps (defScope st)) (len : ∀ vs H Q E, sp vs H Q E → vs.length = ps.length)
    (hb : ∀ (cdv : Value) (A : Around) (outer : List Env) (s : Shared) (H : Hp) (vs : List V) (Q : VK) (E : XK), Room k (A.deeper (envOfC qual (defScope st) s.heap.objs.size f cdv)) → sp vs H Q E →
      ∃ t, PSs (cxOf CX0 P w K mg base N qual (defScope st) f cdv A outer s H E).nox (defBody st) t ∧ t { nx := fun _ H' => Q .non H', rt := Q } (start N vs) H) : FnOk P w K mg base CX0 (k + 1) f fd ps sp := by
  obtain ⟨oc, od, kV, doc, pm, an, cdv, ct, osl, T, td, n, ts, rfl, lk, hcd, lt⟩ := F.ex
  refine fn_of lk hcd S len fun A outer s H vs Q E hr hsp => ?_
  obtain ⟨t, h, q⟩ := hb cdv A outer s H vs Q E hr hsp
  exact ⟨t, h.nox, q⟩
theorem FunD.binds {x qual : Str} {st : Stmt} {f : Addr} {fd : FuncData} {ds d2 : List Value} {ps : List Str} (F : FunD K x qual st f fd ds)
    (h : ∀ (T : Addr) (kV doc pm : Value) (an : Option Addr) (cdv ct : Value) (us : List Value), (us ++ d2).length = ps.length →
      ∃ k : Option (Array Value) → Sem (List (Str × Value)), bindArgs (PySem.W.fnOf x qual (defArgs st) (defBody st) (defScope st) (.ref T) kV doc pm an cdv ct) ⟨us, []⟩ = seqItems? (.ref T) >>= k ∧ k (some ds.toArray) = pure (ps.zip (us ++ d2))) : Binds K fd ps d2 := by
  obtain ⟨oc, od, kV, doc, pm, an, cdv, ct, osl, T, td, n, ts, rfl, lk, hcd, lt⟩ := F.ex
  intro s us KX hl
  obtain ⟨k, h1, h2⟩ := h T kV doc pm an cdv ct us hl
  exact BindsTo.of_defaults rfl (KX _ _ lt) rfl h1 h2
theorem fund_mk {x qual : Str} {st : Stmt} {f T : Addr} {oc : Value} {od an td : Option Addr} {osl ts : Array (Option Value)} {kV doc pm cdv ct : Value} {items : Array Value} {n : Nat}
    (l : K.lookup f = some ⟨oc, od, .func (PySem.W.fnOf x qual (defArgs st) (defBody st) (defScope st) (.ref T) kV doc pm an cdv ct), osl⟩)
    (c : PySem.W.codeIn K cdv qual = true) (k : PySem.W.keepIn K (.ref f) = true) (lt : K.lookup T = some ⟨.type "tuple", td, .seq items n, ts⟩) :
    FunD K x qual st f (PySem.W.fnOf x qual (defArgs st) (defBody st) (defScope st) (.ref T) kV doc pm an cdv ct) items.toList := ⟨⟨oc, od, kV, doc, pm, an, cdv, ct, osl, T, td, n, ts, rfl, l, c, by rw [lt]⟩, k⟩
end
section
variable {X : Cx} {k : Nat} {x : Str} {e : Expr} {es : List Expr} {kws : List Keyword} {t tk : TA} {p pos : Pos} {C : Addr} {sp : Sp} {dvs : List V} {ks : List Str} {gV : List V → List V → List V}
theorem ints_vals : ∀ {ns : List Int} {its : List Value}, Vals (ns.map V.int) its → IntsAre its ns
  | [], _, .nil => .nil
  | n :: ns, _, .cons r t => by
    obtain ⟨tk, rfl⟩ := r
    exact .cons n tk (ints_vals t)
end
namespace Rd
section
variable {σ : St} {H : Hp} {Q : VK}
end
end Rd
end L2
set_option Elab.async false
set_option linter.all false
set_option maxRecDepth 100000
set_option maxHeartbeats 4000000
/-! DICTS whose keys are tuples, as a def's own; a method with defaults, a method within a block; len(set(xs)) -/
namespace L2
open PySem PySem.Spec PyProof.Rows
structure MCalD (P : Program) (w : World) (K : PySem.W.Frag) (mg : Str → Option Value) (base : Heap) (C : Addr) (m : Str) (k : Nat) (sp : Sp) (dvs : List V) : Prop where
  cl : Cls K C
  ex : ∃ (f : Addr) (fd : FuncData) (ps : List Str) (ds : List Value), FnOk P w K mg base CX0 k f fd ps sp ∧ Meth K C m f ∧ Binds K fd ps ds ∧ Vals dvs ds
def methDQ (P : Program) (w : World) (K : PySem.W.Frag) (mg : Str → Option Value) (base : Heap) (m : Str) (k : Nat) (dvs : List V) (t : TA) (σ : St) (Q : VK) : VK := fun x H1 =>
  ∃ a C dx fs sp, x = .ref a ∧ H1 a = some (.ins C dx fs) ∧ fs.lookup m = none ∧ MCalD P w K mg base C m k sp dvs ∧ t σ H1 fun vs H2 => sp (x :: (vs ++ dvs)) H2 Q E0
def tMethD (P : Program) (w : World) (K : PySem.W.Frag) (mg : Str → Option Value) (base : Heap) (m : Str) (k : Nat) (dvs : List V) (ta : TE) (t : TA) : TE := fun σ H Q => ta σ H (methDQ P w K mg base m k dvs t σ Q)
def rInTD : R2 := fun y x H Q => ∃ a b kvs k, x = .ref a ∧ y = .ref b ∧ H a = some (.dT kvs) ∧ H b = some (.tup (k.map kV)) ∧ Q (.bl (valV kvs k).isSome) H
def dgtQ (Q : VK) (x : V) : VK := fun y H => ∃ a b kvs k v, x = .ref a ∧ y = .ref b ∧ H a = some (.dT kvs) ∧ H b = some (.tup (k.map kV)) ∧ valV kvs k = some v ∧ Q v H
def tDGetT (td ty : TE) : TE := fun σ H Q => td σ H fun x H1 => ty σ H1 (dgtQ Q x)
def dptQ (D : Ends) (σ : St) (v x : V) : VK := fun y H => ∃ a b kvs k, x = .ref a ∧ y = .ref b ∧ H a = some (.dT kvs) ∧ H b = some (.tup (k.map kV)) ∧ kvs.length < sizeLine ∧ ∀ H2, Wrt H a (.dT (putK kvs k v)) H2 → D.nx σ H2
def sDPutT (td ty tv : TE) : TS := fun D σ H => tv σ H fun v H1 => td σ H1 fun x H2 => ty σ H2 (dptQ D σ v x)
def tDNewA : TE := fun _ H Q => ∀ p H2, New H p (.dT []) H2 → Q (.ref p) H2
def lnsQ (K : PySem.W.Frag) (Q : VK) : List V → Hp → Prop := fun vs H1 => ∃ (a : Addr) (ns : List Int), vs = [.ref a] ∧ SqL K H1 a (ns.map V.int) ∧ ns.length < 64 ∧ ∀ n : Nat, (ns.Nodup → n = ns.length) → Q (.int n) H1
def tLns (K : PySem.W.Frag) (t : TA) : TE := fun σ H Q => t σ H (lnsQ K Q)
def rMin2 : List V → Hp → VK → Prop
  | [.int i, .int j], H, Q => Q (.int (if j < i then j else i)) H
  | _, _, _ => False
def rMax2 : List V → Hp → VK → Prop
  | [.int i, .int j], H, Q => Q (.int (if j > i then j else i)) H
  | _, _, _ => False
section
variable {X : Cx} {k : Nat} {m x : Str} {o e i value : Expr} {es : List Expr} {ta td ty tv : TE} {t : TA} {p pos pos' apos : Pos} {C : Addr} {sp : Sp} {dvs : List V}
theorem pe_methD {pl : Sem Bool} (he : PE X o ta) (hr : Room k X.A) (ha : PA X (e :: es) t)
    (hst : starEach (e :: es) X.env = (false, eval e X.env) :: starEach es X.env := by rfl) (hpl : (backTo pos (starEach es X.env)).any (·.1) = false := by rfl)
    (ht : eval (.Call (.Attribute o m apos) (e :: es) [] pos) X.env = (do
      let ov ← eval o X.env
      standAt apos.atName
      let (f, first) ← holding [ov] (getMethod ov m pl)
      callWith pos f first (backTo pos (starEach (e :: es) X.env)) (backToKw pos (keywordEach [] X.env))) := by rfl) :
    PE X (.Call (.Attribute o m apos) (e :: es) [] pos) (tMethD X.prog X.w X.K X.mg X.base m k dvs ta t) := by
  intro pins s σ H Q I h
  refine PySem.W.methodCall_KW (pl := pl) (thn (he pins s σ H _ I h) fun u s1 ⟨x, H1, I1, rx, a, C, dx, fs, sp, ex, ea, l, ⟨c, f, fd, ps, ds, F, hm, hb, hd⟩, q⟩ => ?_) ht
  subst ex
  obtain rfl : u = Value.ref a := rx
  refine getmeth_ok I1 ea c hm l ?_
  refine PySem.W.callWith_K (first := [.ref a]) (h₀ := X.base) I.ok.mod.kin hm.kp (thn (ha pos pins s1 σ H1 _ I1 q) fun us s2 ⟨vs, H2, I2, r, q2⟩ => ⟨I2.kIn, ?_⟩) hst hpl
  exact run_fn (us := .ref a :: us) (vs := .ref a :: vs) (dvs := dvs) F hr hb hd pass0 I2 (.cons rfl r) q2
theorem call_minR (hc : X.calm = true) : CallR X (.builtin "min") rMin2 := by
  intro pins s σ H xs us Q I r h
  match xs, h with
  | [.int i, .int j], q => exact call_min2 hc pins s σ H _ us Q I r ⟨i, j, rfl, q⟩
theorem call_maxR (hc : X.calm = true) : CallR X (.builtin "max") rMax2 := by
  intro pins s σ H xs us Q I r h
  match xs, h with
  | [.int i, .int j], q => exact call_max2 hc pins s σ H _ us Q I r ⟨i, j, rfl, q⟩
theorem op_inTD (hu : X.A.units + 64 < cLine) : OpR X (compareOp .In) rInTD := by
  intro pins s σ H y x v u Q I ry rx h
  obtain ⟨a, b, kvs, k, ex, ey, ea, eb, q⟩ := h
  subst ex ey
  cases (show u = Value.ref a from rx)
  exact d_in (by omega) I (DGet.t ea eb) ry fun s3 I3 => ⟨.bl (valV kvs k).isSome, H, I3, rfl, q⟩
theorem pe_dgetT (hu : X.A.units + 64 < cLine) (ho : PE X o td) (hi : PE X i ty) (hs : NoSl i := by intro _ _; rfl) : PE X (.Subscript o i pos) (tDGetT td ty) := by
  intro pins s σ H Q I h
  refine subD_of PySem.F.slot_dict_getitem.lookup hs (thn (ho pins s σ H _ I h) fun u s1 ⟨x, H1, I1, rx, q1⟩ => thn (hi pins s1 σ H1 _ I1 q1) fun iv s2 ⟨y, H2, I2, ry, a, b, kvs, k, v, ex, ey, ea, eb, ev, q2⟩ => ?_)
  subst ex ey
  obtain rfl : u = Value.ref a := rx
  have g : DGet H2 a (.ref b) (some v) := by rw [← ev]; exact DGet.t ea eb
  exact ⟨dict_typeIs I2 g, d_getItem (by omega) I2 g ry fun w' s3 I3 rw' => ⟨v, H2, I3, rw', q2⟩⟩
theorem ps_dputT (hu : X.A.units + 64 < cLine) (ho : PE X o td) (hi : PE X i ty) (hv : PE X value tv) (hs : swapsWith value (some (.Subscript o i pos')) pos.line X.env = pure false := by rfl) :
    PS X (.Assign [.Subscript o i pos'] value pos) (sDPutT td ty tv) := by
  intro pins s σ H D I h
  refine wpAny_Assign_Subscript (thn (hv pins s σ H _ I h) fun r s1 ⟨v, H1, I1, rv, q1⟩ => thn (ho pins s1 σ H1 _ I1 q1) fun u s2 ⟨x, H2, I2, rx, q2⟩ => thn (hi pins s2 σ H2 _ I2 q2) fun iv s3 ⟨y, H3, I3, ry, a, b, kvs, k, ex, ey, ea, eb, hl, q3⟩ => ?_) hs
  subst ex ey
  obtain rfl : u = Value.ref a := rx
  exact d_setItem (by omega) I3 (DPut.t ea eb hl) ry rv fun s4 I4 => ⟨σ, _, I4, q3 _ Wrt.of⟩
theorem pe_dnewA : PE X (.Dict [] [] pos) tDNewA := fun pins s σ H Q I h => pe_dnewT pins s σ H Q I fun p hp => h p _ (New.of hp)
theorem pe_lenSet {ta : TA} {p1 p2 pos2 : Pos} (hgs : Gl X "len") (hgt : Gl X "set") (hms : X.mg "len" = none) (hmt : X.mg "set" = none) (hc : X.calm = true) (ha : PA X [e] ta)
    (hs : starEach [e] X.env = (false, eval e X.env) :: starEach [] X.env := by rfl) (hpl : (backTo pos2 (starEach [] X.env)).any (·.1) = false := by rfl)
    (hs2 : starEach [.Call (.Name "set" p2) [e] [] pos2] X.env = [(false, eval (.Call (.Name "set" p2) [e] [] pos2) X.env)] := by rfl) :
    PE X (.Call (.Name "len" p1) [.Call (.Name "set" p2) [e] [] pos2] [] pos) (tLns X.K ta) := by
  intro pins s σ H Q I h
  refine Call_ (ld_blt I hgs hms boot_len (PyProof.Rows.callWith_builtin1 ?_ hs2 rfl))
  rw [hs2]
  show wpAny _ _ (spliced ((false, eval (.Call (.Name "set" p2) [e] [] pos2) X.env) :: [])) _ _ s
  refine Calls.spliced_cons (Call_ (ld_blt I hgt hmt boot_set (PyProof.Rows.callWith_type1 (thn (ha pos2 pins s σ H _ I h) fun us s1 ⟨vs, H1, I1, r1, q1⟩ => ?_) hs hpl)))
  obtain ⟨a, ns, ev, hq, h64, q⟩ := q1
  subst ev
  obtain ⟨u, rfl, ru⟩ := r1.one
  cases ru
  obtain ⟨its, rv, pl, hz⟩ := I1.list hq
  have li : its.length = ns.length := by
    have := rv.length
    simpa using this.symm
  refine SetX.call_setL (I.ok.hd hc) pl.isList (ns := ns) (by simpa using ints_vals rv) (by rw [List.size_toArray]; unfold scanBound; omega) fun m tk es ep t S z hm kp ht => Calls.spliced_nil ?_
  replace z : es.size ≤ its.length := by simpa using z
  have hp : ns.Nodup → es.size = ns.length := fun nd => by
    have := ((List.perm_ext_iff_of_nodup S.nd nd).mpr hm).length_eq
    simpa [SetX.nums] using this
  refine call_len_set (s := { s1 with heap := m, toks := tk }) S.here ⟨rfl, rfl, rfl⟩ rfl S.fit (by omega) ?_
  exact ⟨.int es.size, H1, (I1.kept (t' := tk) fun b o e => kp b o (Heap.lt_size e) e).tok _, ⟨_, rfl⟩, q es.size hp⟩
variable {N' : List Str} {scope : Scope} {Cb : Addr} {s₀ : Shared} {H₀ : Hp} {ex : List Addr}
theorem pe_methCB {pl : Sem Bool} (he : PE (X.block N' scope Cb s₀ H₀ ex) o ta) (hr : Room k X.A) (ha : PA (X.block N' scope Cb s₀ H₀ ex) (e :: es) t)
    (hst : starEach (e :: es) (X.block N' scope Cb s₀ H₀ ex).env = (false, eval e (X.block N' scope Cb s₀ H₀ ex).env) :: starEach es (X.block N' scope Cb s₀ H₀ ex).env := by rfl) (hpl : (backTo pos (starEach es (X.block N' scope Cb s₀ H₀ ex).env)).any (·.1) = false := by rfl)
    (ht : eval (.Call (.Attribute o m apos) (e :: es) [] pos) (X.block N' scope Cb s₀ H₀ ex).env = (do
      let ov ← eval o (X.block N' scope Cb s₀ H₀ ex).env
      standAt apos.atName
      let (f, first) ← holding [ov] (getMethod ov m pl)
      callWith pos f first (backTo pos (starEach (e :: es) (X.block N' scope Cb s₀ H₀ ex).env)) (backToKw pos (keywordEach [] (X.block N' scope Cb s₀ H₀ ex).env))) := by rfl) :
    PE (X.block N' scope Cb s₀ H₀ ex) (.Call (.Attribute o m apos) (e :: es) [] pos) (tMethC X.prog X.w X.K X.mg X.base m k ta t) := pe_methC (X := X.block N' scope Cb s₀ H₀ ex) he hr ha hst hpl ht
end
namespace Rd
section
variable {σ : St} {H : Hp} {Q : VK} {D : Ends}
theorem cxP {CX : CXT} {P : Program} {w : World} {K : PySem.W.Frag} {mg : Str → Option Value} {base : Heap} {N : List Str} {qual : Str} {scope : Scope} {f : Addr} {cd : Value} {A : Around} {outer : List Env} {s : Shared} {H : Hp} {E : XK} : (cxOf CX P w K mg base N qual scope f cd A outer s H E).prog = P := rfl
theorem cxW {CX : CXT} {P : Program} {w : World} {K : PySem.W.Frag} {mg : Str → Option Value} {base : Heap} {N : List Str} {qual : Str} {scope : Scope} {f : Addr} {cd : Value} {A : Around} {outer : List Env} {s : Shared} {H : Hp} {E : XK} : (cxOf CX P w K mg base N qual scope f cd A outer s H E).w = w := rfl
theorem cxM {CX : CXT} {P : Program} {w : World} {K : PySem.W.Frag} {mg : Str → Option Value} {base : Heap} {N : List Str} {qual : Str} {scope : Scope} {f : Addr} {cd : Value} {A : Around} {outer : List Env} {s : Shared} {H : Hp} {E : XK} : (cxOf CX P w K mg base N qual scope f cd A outer s H E).mg = mg := rfl
theorem cxB {CX : CXT} {P : Program} {w : World} {K : PySem.W.Frag} {mg : Str → Option Value} {base : Heap} {N : List Str} {qual : Str} {scope : Scope} {f : Addr} {cd : Value} {A : Around} {outer : List Env} {s : Shared} {H : Hp} {E : XK} : (cxOf CX P w K mg base N qual scope f cd A outer s H E).base = base := rfl
theorem cxPn {X : Cx} : X.nox.prog = X.prog := rfl
theorem cxWn {X : Cx} : X.nox.w = X.w := rfl
theorem cxMn {X : Cx} : X.nox.mg = X.mg := rfl
theorem cxBn {X : Cx} : X.nox.base = X.base := rfl
theorem meD {P : Program} {w : World} {K : PySem.W.Frag} {mg : Str → Option Value} {base : Heap} {m : Str} {k : Nat} {dvs : List V} {ta : TE} {t : TA} : tMethD P w K mg base m k dvs ta t σ H Q = ta σ H (methDQ P w K mg base m k dvs t σ Q) := rfl
theorem meDQ {P : Program} {w : World} {K : PySem.W.Frag} {mg : Str → Option Value} {base : Heap} {m : Str} {k : Nat} {dvs : List V} {t : TA} {a : Addr} : methDQ P w K mg base m k dvs t σ Q (.ref a) H =
    ∃ C dx fs sp, H a = some (.ins C dx fs) ∧ fs.lookup m = none ∧ MCalD P w K mg base C m k sp dvs ∧ t σ H fun vs H2 => sp (.ref a :: (vs ++ dvs)) H2 Q E0 :=
  propext ⟨fun ⟨_, C, dx, fs, sp, e, a1, a2, a3, q⟩ => by cases e; exact ⟨C, dx, fs, sp, a1, a2, a3, q⟩, fun ⟨C, dx, fs, sp, a1, a2, a3, q⟩ => ⟨a, C, dx, fs, sp, rfl, a1, a2, a3, q⟩⟩
theorem inTD {a b : Addr} : rInTD (.ref b) (.ref a) H Q = ∃ kvs k, H a = some (.dT kvs) ∧ H b = some (.tup (k.map kV)) ∧ Q (.bl (valV kvs k).isSome) H :=
  propext ⟨fun ⟨_, _, kvs, k, e, f, q⟩ => by cases e; cases f; exact ⟨kvs, k, q⟩, fun ⟨kvs, k, q⟩ => ⟨a, b, kvs, k, rfl, rfl, q⟩⟩
theorem dgT {td ty : TE} : tDGetT td ty σ H Q = td σ H fun x H1 => ty σ H1 (dgtQ Q x) := rfl
theorem dgTR {a b : Addr} : dgtQ Q (.ref a) (.ref b) H = ∃ kvs k v, H a = some (.dT kvs) ∧ H b = some (.tup (k.map kV)) ∧ valV kvs k = some v ∧ Q v H :=
  propext ⟨fun ⟨_, _, kvs, k, v, e, f, q⟩ => by cases e; cases f; exact ⟨kvs, k, v, q⟩, fun ⟨kvs, k, v, q⟩ => ⟨a, b, kvs, k, v, rfl, rfl, q⟩⟩
theorem dpT {td ty tv : TE} : sDPutT td ty tv D σ H = tv σ H fun v H1 => td σ H1 fun x H2 => ty σ H2 (dptQ D σ v x) := rfl
theorem dpTR {a b : Addr} {v : V} : dptQ D σ v (.ref a) (.ref b) H = ∃ kvs k, H a = some (.dT kvs) ∧ H b = some (.tup (k.map kV)) ∧ kvs.length < sizeLine ∧ ∀ H2, Wrt H a (.dT (putK kvs k v)) H2 → D.nx σ H2 :=
  propext ⟨fun ⟨_, _, kvs, k, e, f, q⟩ => by cases e; cases f; exact ⟨kvs, k, q⟩, fun ⟨kvs, k, q⟩ => ⟨a, b, kvs, k, rfl, rfl, q⟩⟩
theorem dnw : tDNewA σ H Q = ∀ p H2, New H p (.dT []) H2 → Q (.ref p) H2 := rfl
theorem min2 {i j : Int} : rMin2 [.int i, .int j] H Q = Q (.int (if j < i then j else i)) H := rfl
theorem max2 {i j : Int} : rMax2 [.int i, .int j] H Q = Q (.int (if j > i then j else i)) H := rfl
theorem lns {K : PySem.W.Frag} {t : TA} : tLns K t σ H Q = t σ H (lnsQ K Q) := rfl
theorem lnsR {K : PySem.W.Frag} {a : Addr} : lnsQ K Q [.ref a] H = ∃ ns : List Int, SqL K H a (ns.map V.int) ∧ ns.length < 64 ∧ ∀ n : Nat, (ns.Nodup → n = ns.length) → Q (.int n) H :=
  propext ⟨fun ⟨_, ns, e, q⟩ => by cases e; exact ⟨ns, q⟩, fun ⟨ns, q⟩ => ⟨a, ns, rfl, q⟩⟩
end
end Rd
end L2
set_option Elab.async false
set_option linter.all false
set_option maxRecDepth 100000
set_option maxHeartbeats 4000000
namespace K42
open PySem L2
def top (i : Nat) : Stmt := PySem.Challenge.pw_hostturn_k42_like_terms.main.body.getD i (.Pass ⟨0, 0, 0, 0⟩)
abbrev s__wall : Stmt := top 0
theorem sc__wall : FnScope ["k"] ["k"] (defScope s__wall) := ⟨rfl, rfl, rfl, by decide +kernel, rfl, by decide +kernel, by decide +kernel⟩
theorem st__wall {x0 : V} : start ["k"] [x0] = [some x0] := rfl
abbrev s_fit : Stmt := top 6
theorem sc_fit : FnScope ["width", "number"] ["width", "number"] (defScope s_fit) := ⟨rfl, rfl, rfl, by decide +kernel, rfl, by decide +kernel, by decide +kernel⟩
theorem st_fit {x0 x1 : V} : start ["width", "number"] [x0, x1] = [some x0, some x1] := rfl
abbrev s_reckoned : Stmt := top 7
theorem sc_reckoned : FnScope ["width", "word", "one", "other"] ["width", "word", "one", "other"] (defScope s_reckoned) := ⟨rfl, rfl, rfl, by decide +kernel, rfl, by decide +kernel, by decide +kernel⟩
theorem st_reckoned {x0 x1 x2 x3 : V} : start ["width", "word", "one", "other"] [x0, x1, x2, x3] = [some x0, some x1, some x2, some x3] := rfl
abbrev s_unfitted : Stmt := top 8
theorem sc_unfitted : FnScope ["word", "one", "other"] ["word", "one", "other"] (defScope s_unfitted) := ⟨rfl, rfl, rfl, by decide +kernel, rfl, by decide +kernel, by decide +kernel⟩
theorem st_unfitted {x0 x1 x2 : V} : start ["word", "one", "other"] [x0, x1, x2] = [some x0, some x1, some x2] := rfl
abbrev s_unfitted_of_two : Stmt := top 9
theorem sc_unfitted_of_two : FnScope ["word", "one", "other"] ["word", "one", "other"] (defScope s_unfitted_of_two) := ⟨rfl, rfl, rfl, by decide +kernel, rfl, by decide +kernel, by decide +kernel⟩
theorem st_unfitted_of_two {x0 x1 x2 : V} : start ["word", "one", "other"] [x0, x1, x2] = [some x0, some x1, some x2] := rfl
abbrev s__law_cell_at : Stmt := top 15
theorem sc__law_cell_at : FnScope ["_law_script", "_law_k"] ["_law_script", "_law_k"] (defScope s__law_cell_at) := ⟨rfl, rfl, rfl, by decide +kernel, rfl, by decide +kernel, by decide +kernel⟩
theorem st__law_cell_at {x0 x1 : V} : start ["_law_script", "_law_k"] [x0, x1] = [some x0, some x1] := rfl
abbrev s__law_is_row : Stmt := top 16
theorem sc__law_is_row : FnScope ["_law_cell"] ["_law_cell"] (defScope s__law_is_row) := ⟨rfl, rfl, rfl, by decide +kernel, rfl, by decide +kernel, by decide +kernel⟩
theorem st__law_is_row {x0 : V} : start ["_law_cell"] [x0] = [some x0] := rfl
abbrev s__law_mixed : Stmt := top 17
theorem sc__law_mixed : FnScope ["_law_cell", "_law_k", "_law_number_here"] ["_law_cell", "_law_k"] (defScope s__law_mixed) := ⟨rfl, rfl, rfl, by decide +kernel, rfl, by decide +kernel, by decide +kernel⟩
theorem st__law_mixed {x0 x1 : V} : start ["_law_cell", "_law_k", "_law_number_here"] [x0, x1] = [some x0, some x1, none] := rfl
abbrev s__law_number : Stmt := top 18
theorem sc__law_number : FnScope ["_law_cell", "_law_k", "_law_width", "_law_number_here", "_law_large"] ["_law_cell", "_law_k", "_law_width"] (defScope s__law_number) := ⟨rfl, rfl, rfl, by decide +kernel, rfl, by decide +kernel, by decide +kernel⟩
theorem st__law_number {x0 x1 x2 : V} : start ["_law_cell", "_law_k", "_law_width", "_law_number_here", "_law_large"] [x0, x1, x2] = [some x0, some x1, some x2, none, none] := rfl
abbrev s__law_term : Stmt := top 19
theorem sc__law_term : FnScope ["_law_terms", "_law_cell", "_law_width", "_law_number_here", "_law_one", "_law_other"] ["_law_terms", "_law_cell", "_law_width"] (defScope s__law_term) := ⟨rfl, rfl, rfl, by decide +kernel, rfl, by decide +kernel, by decide +kernel⟩
theorem st__law_term {x0 x1 x2 : V} : start ["_law_terms", "_law_cell", "_law_width", "_law_number_here", "_law_one", "_law_other"] [x0, x1, x2] = [some x0, some x1, some x2, none, none, none] := rfl
abbrev s__law_nothing_done : Stmt := top 20
theorem sc__law_nothing_done : FnScope ["_law_terms", "_law_x", "_law_zero", "_law_found"] ["_law_terms", "_law_x"] (defScope s__law_nothing_done) := ⟨rfl, rfl, rfl, by decide +kernel, rfl, by decide +kernel, by decide +kernel⟩
theorem st__law_nothing_done {x0 x1 : V} : start ["_law_terms", "_law_x", "_law_zero", "_law_found"] [x0, x1] = [some x0, some x1, none, none] := rfl
abbrev s__law_nought : Stmt := top 21
theorem sc__law_nought : FnScope ["_law_terms", "_law_x", "_law_zero", "_law_found"] ["_law_terms", "_law_x"] (defScope s__law_nought) := ⟨rfl, rfl, rfl, by decide +kernel, rfl, by decide +kernel, by decide +kernel⟩
theorem st__law_nought {x0 x1 : V} : start ["_law_terms", "_law_x", "_law_zero", "_law_found"] [x0, x1] = [some x0, some x1, none, none] := rfl
abbrev s__law_numbers : Stmt := top 22
theorem sc__law_numbers : FnScope ["_law_terms", "_law_x", "_law_first", "_law_second", "_law_width", "_law_most", "_law_one", "_law_other", "_law_both", "_law_found", "_law_due"] ["_law_terms", "_law_x", "_law_first", "_law_second", "_law_width"] (defScope s__law_numbers) := ⟨rfl, rfl, rfl, by decide +kernel, rfl, by decide +kernel, by decide +kernel⟩
theorem st__law_numbers {x0 x1 x2 x3 x4 : V} : start ["_law_terms", "_law_x", "_law_first", "_law_second", "_law_width", "_law_most", "_law_one", "_law_other", "_law_both", "_law_found", "_law_due"] [x0, x1, x2, x3, x4] = [some x0, some x1, some x2, some x3, some x4, none, none, none, none, none, none] := rfl
abbrev s_law : Stmt := top 23
theorem sc_law : FnScope ["_law_script", "_law_width", "_law_terms", "_law_x", "_law_y", "_law_word", "_law_first", "_law_second", "_law_unknown"] ["_law_script"] (defScope s_law) := ⟨rfl, rfl, rfl, by decide +kernel, rfl, by decide +kernel, by decide +kernel⟩
theorem st_law {x0 : V} : start ["_law_script", "_law_width", "_law_terms", "_law_x", "_law_y", "_law_word", "_law_first", "_law_second", "_law_unknown"] [x0] = [some x0, none, none, none, none, none, none, none, none] := rfl
abbrev s_TooMany___init__ : Stmt := inClass (top 3) 0
theorem sc_TooMany___init__ : FnScope ["self", "many"] ["self", "many"] (defScope s_TooMany___init__) := ⟨rfl, rfl, rfl, by decide +kernel, rfl, by decide +kernel, by decide +kernel⟩
theorem st_TooMany___init__ {x0 x1 : V} : start ["self", "many"] [x0, x1] = [some x0, some x1] := rfl
abbrev s_Terms___init__ : Stmt := inClass (top 13) 0
theorem sc_Terms___init__ : FnScope ["self", "width"] ["self", "width"] (defScope s_Terms___init__) := ⟨rfl, rfl, rfl, by decide +kernel, rfl, by decide +kernel, by decide +kernel⟩
theorem st_Terms___init__ {x0 x1 : V} : start ["self", "width"] [x0, x1] = [some x0, some x1] := rfl
abbrev s_Terms_number : Stmt := inClass (top 13) 1
theorem sc_Terms_number : FnScope ["self", "whole"] ["self", "whole"] (defScope s_Terms_number) := ⟨rfl, rfl, rfl, by decide +kernel, rfl, by decide +kernel, by decide +kernel⟩
theorem st_Terms_number {x0 x1 : V} : start ["self", "whole"] [x0, x1] = [some x0, some x1] := rfl
abbrev s_Terms_unknown : Stmt := inClass (top 13) 2
theorem sc_Terms_unknown : FnScope ["self", "name", "which"] ["self", "name", "which"] (defScope s_Terms_unknown) := ⟨rfl, rfl, rfl, by decide +kernel, rfl, by decide +kernel, by decide +kernel⟩
theorem st_Terms_unknown {x0 x1 x2 : V} : start ["self", "name", "which"] [x0, x1, x2] = [some x0, some x1, some x2] := rfl
abbrev s_Terms_make : Stmt := inClass (top 13) 3
theorem sc_Terms_make : FnScope ["self", "word", "one", "other"] ["self", "word", "one", "other"] (defScope s_Terms_make) := ⟨rfl, rfl, rfl, by decide +kernel, rfl, by decide +kernel, by decide +kernel⟩
theorem st_Terms_make {x0 x1 x2 x3 : V} : start ["self", "word", "one", "other"] [x0, x1, x2, x3] = [some x0, some x1, some x2, some x3] := rfl
abbrev s_Terms_mark : Stmt := inClass (top 13) 4
theorem sc_Terms_mark : FnScope ["self", "ask", "record"] ["self", "ask", "record"] (defScope s_Terms_mark) := ⟨rfl, rfl, rfl, by decide +kernel, rfl, by decide +kernel, by decide +kernel⟩
theorem st_Terms_mark {x0 x1 x2 : V} : start ["self", "ask", "record"] [x0, x1, x2] = [some x0, some x1, some x2] := rfl
abbrev s_Terms_value : Stmt := inClass (top 13) 5
theorem sc_Terms_value : FnScope ["self", "one", "given"] ["self", "one", "given"] (defScope s_Terms_value) := ⟨rfl, rfl, rfl, by decide +kernel, rfl, by decide +kernel, by decide +kernel⟩
theorem st_Terms_value {x0 x1 x2 : V} : start ["self", "one", "given"] [x0, x1, x2] = [some x0, some x1, some x2] := rfl
abbrev s_Terms_needed : Stmt := inClass (top 13) 6
theorem sc_Terms_needed : FnScope ["self", "one"] ["self", "one"] (defScope s_Terms_needed) := ⟨rfl, rfl, rfl, by decide +kernel, rfl, by decide +kernel, by decide +kernel⟩
theorem st_Terms_needed {x0 x1 : V} : start ["self", "one"] [x0, x1] = [some x0, some x1] := rfl
abbrev s_Terms_term_of : Stmt := inClass (top 13) 7
theorem sc_Terms_term_of : FnScope ["self", "form", "many"] ["self", "form"] (defScope s_Terms_term_of) := ⟨rfl, rfl, rfl, by decide +kernel, rfl, by decide +kernel, by decide +kernel⟩
theorem st_Terms_term_of {x0 x1 : V} : start ["self", "form", "many"] [x0, x1] = [some x0, some x1, none] := rfl
abbrev s_Terms_is_known : Stmt := inClass (top 13) 8
theorem sc_Terms_is_known : FnScope ["self", "term"] ["self", "term"] (defScope s_Terms_is_known) := ⟨rfl, rfl, rfl, by decide +kernel, rfl, by decide +kernel, by decide +kernel⟩
theorem st_Terms_is_known {x0 x1 : V} : start ["self", "term"] [x0, x1] = [some x0, some x1] := rfl
abbrev s_Terms_known : Stmt := inClass (top 13) 9
theorem sc_Terms_known : FnScope ["self", "term"] ["self", "term"] (defScope s_Terms_known) := ⟨rfl, rfl, rfl, by decide +kernel, rfl, by decide +kernel, by decide +kernel⟩
theorem st_Terms_known {x0 x1 : V} : start ["self", "term"] [x0, x1] = [some x0, some x1] := rfl
abbrev s_Terms_form_of_one : Stmt := inClass (top 13) 10
theorem sc_Terms_form_of_one : FnScope ["self", "word", "one", "form"] ["self", "word", "one"] (defScope s_Terms_form_of_one) := ⟨rfl, rfl, rfl, by decide +kernel, rfl, by decide +kernel, by decide +kernel⟩
theorem st_Terms_form_of_one {x0 x1 x2 : V} : start ["self", "word", "one", "form"] [x0, x1, x2] = [some x0, some x1, some x2, none] := rfl
abbrev s_Terms_form_of_two : Stmt := inClass (top 13) 11
theorem sc_Terms_form_of_two : FnScope ["self", "word", "one", "other"] ["self", "word", "one", "other"] (defScope s_Terms_form_of_two) := ⟨rfl, rfl, rfl, by decide +kernel, rfl, by decide +kernel, by decide +kernel⟩
theorem st_Terms_form_of_two {x0 x1 x2 x3 : V} : start ["self", "word", "one", "other"] [x0, x1, x2, x3] = [some x0, some x1, some x2, some x3] := rfl
abbrev s_Terms_form_with_number : Stmt := inClass (top 13) 12
theorem sc_Terms_form_with_number : FnScope ["self", "word", "one", "other", "number"] ["self", "word", "one", "other"] (defScope s_Terms_form_with_number) := ⟨rfl, rfl, rfl, by decide +kernel, rfl, by decide +kernel, by decide +kernel⟩
theorem st_Terms_form_with_number {x0 x1 x2 x3 : V} : start ["self", "word", "one", "other", "number"] [x0, x1, x2, x3] = [some x0, some x1, some x2, some x3, none] := rfl
abbrev s_Terms_form_of_plus : Stmt := inClass (top 13) 13
theorem sc_Terms_form_of_plus : FnScope ["self", "one", "number", "form", "whole"] ["self", "one", "number"] (defScope s_Terms_form_of_plus) := ⟨rfl, rfl, rfl, by decide +kernel, rfl, by decide +kernel, by decide +kernel⟩
theorem st_Terms_form_of_plus {x0 x1 x2 : V} : start ["self", "one", "number", "form", "whole"] [x0, x1, x2] = [some x0, some x1, some x2, none, none] := rfl
local macro_rules | `(tactic| walk_at "sq") => `(tactic| first
  | assumption
  | exact SqL.of (by assumption)
  | exact SqT.of (by assumption)
  | exact sq_at (by assumption)
  | exact st_at (by assumption)
  | exact at_at (by assumption)
  | exact Same.refl _
  | (refine sq_new (by assumption) ?_; walk_at "sq")
  | (refine sq_same (by assumption) ?_; walk_at "sq")
  | (refine st_new (by assumption) ?_; walk_at "sq")
  | (refine st_same (by assumption) ?_; walk_at "sq")
  | (refine sm_new (by assumption) ?_; walk_at "sq")
  | (refine sm_same (by assumption) ?_; walk_at "sq")
  | (refine at_new (by assumption) ?_; walk_at "sq")
  | (refine at_same (by assumption) ?_; walk_at "sq"))
def W (w : Int) : Prop := w = 8 ∨ w = 16 ∨ w = 32
def spans : List (Key × V) := [(.inl 8, .int 256), (.inl 16, .int 65536), (.inl 32, .int 4294967296)]
theorem span_at {w : Int} (h : W w) : valV spans (.inl w) = some (.int (2 ^ w.toNat)) := by
  rcases h with rfl | rfl | rfl <;> decide +kernel
/-- the powers -/
theorem pw {w : Int} (h : W w) : (2 : Int) ^ w.toNat = 2 * 2 ^ (w - 1).toNat ∧ 0 < (2 : Int) ^ (w - 1).toNat ∧ 0 ≤ w - 1 ∧ w ≤ 32 ∧ (2 : Int) ^ w.toNat ≤ 4294967296 := by
  rcases h with rfl | rfl | rfl <;> decide
/-- a width out of the written three -/
theorem pick3 (r : Int) : ∃ w, W w ∧ atI [V.int 8, V.int 16, V.int 32] (r % 3) = some (.int w) := by
  have h : r % 3 = 0 ∨ r % 3 = 1 ∨ r % 3 = 2 := by omega
  rcases h with h | h | h <;> rw [h]
  · exact ⟨8, .inl rfl, rfl⟩
  · exact ⟨16, .inr (.inl rfl), rfl⟩
  · exact ⟨32, .inr (.inr rfl), rfl⟩
theorem atI_ints {ns : List Int} {k : Int} (h0 : 0 ≤ k) (h1 : k < (ns.length : Int)) : atI (ns.map V.int) k = some (.int (ns.getD k.toNat 0)) := by
  obtain ⟨j, rfl⟩ := Int.eq_ofNat_of_zero_le h0
  have hj : j < ns.length := by omega
  exact atI_nat (by simp [hj])
/-- a place of either sign -/
theorem atI_some {xs : List V} {k : Int} (h0 : -(xs.length : Int) ≤ k) (h1 : k < (xs.length : Int)) : ∃ v ∈ xs, atI xs k = some v := by
  unfold atI ixN
  by_cases h : 0 ≤ k
  · rw [if_pos h, if_pos h1]
    have hj : k.toNat < xs.length := by omega
    exact ⟨xs[k.toNat], List.getElem_mem hj, by simp [hj]⟩
  · rw [if_neg h, if_pos h0]
    have hj : (k + (xs.length : Int)).toNat < xs.length := by omega
    exact ⟨xs[(k + (xs.length : Int)).toNat], List.getElem_mem hj, by simp [hj]⟩
def Ints (xs : List V) : Prop := ∀ x ∈ xs, ∃ n : Int, x = .int n
theorem ints_map (ns : List Int) : Ints (ns.map V.int) := fun x hx => by
  obtain ⟨n, _, rfl⟩ := List.mem_map.mp hx
  exact ⟨n, rfl⟩
theorem ints_cut {xs : List V} (h : Ints xs) (lo hi : Option Int) : Ints (cutV xs lo hi) := fun x hx => h x (List.mem_of_mem_drop (List.mem_of_mem_take hx))
theorem ints_app {xs ys : List V} (h : Ints xs) (h' : Ints ys) : Ints (xs ++ ys) := fun x hx => (List.mem_append.mp hx).elim (h x) (h' x)
theorem ints_at {xs : List V} (h : Ints xs) {k : Int} (h0 : -(xs.length : Int) ≤ k) (h1 : k < (xs.length : Int)) : ∃ n : Int, atI xs k = some (.int n) := by
  obtain ⟨v, hv, e⟩ := atI_some h0 h1
  obtain ⟨n, rfl⟩ := h v hv
  exact ⟨n, e⟩
structure Bls (mg : Str → Option Value) : Prop where
  len : mg "len" = none
  min : mg "min" = none
  max : mg "max" = none
  range : mg "range" = none
  set : mg "set" = none
def sgn (w n : Int) : Int := if 2 ^ (w - 1).toNat ≤ n then n - 2 ^ w.toNat else n
def sp_fit : Sp := spN [.i, .i] fun (w : Int) (n : Int) (H : Hp) (Q : VK) => W w ∧ Q (.int (n % 2 ^ w.toNat)) H
theorem rd_fit {w n : Int} {H : Hp} {Q : VK} {E : XK} : sp_fit [.int w, .int n] H Q E = (W w ∧ Q (.int (n % 2 ^ w.toNat)) H) := rfl
def unf2 (x : Str) (a b : Int) : Int :=
  if x = "add" then a + b else if x = "sub" then a - b else if x = "and" then Builtin.bitAnd a b else if x = "or" then Builtin.bitOr a b else Builtin.bitXor a b
def unf (x : Str) (a b : Int) : Int := if x = "not" then -1 - a else if x = "left" then a + a else if x = "right" then a / 2 else unf2 x a b
def sp_unf2 : Sp := spN [.s, .i, .i] fun (x : Str) (a : Int) (b : Int) (H : Hp) (Q : VK) => Q (.int (unf2 x a b)) H
theorem rd_unf2 {x : Str} {a b : Int} {H : Hp} {Q : VK} {E : XK} : sp_unf2 [.str x, .int a, .int b] H Q E = Q (.int (unf2 x a b)) H := rfl
def sp_unf : Sp := spN [.s, .i, .i] fun (x : Str) (a : Int) (b : Int) (H : Hp) (Q : VK) => Q (.int (unf x a b)) H
theorem rd_unf {x : Str} {a b : Int} {H : Hp} {Q : VK} {E : XK} : sp_unf [.str x, .int a, .int b] H Q E = Q (.int (unf x a b)) H := rfl
def sp_reckoned : Sp := spN [.i, .s, .i, .i] fun (w : Int) (x : Str) (a : Int) (b : Int) (H : Hp) (Q : VK) => W w ∧ Q (.int (unf x a b % 2 ^ w.toNat)) H
theorem rd_reckoned {w a b : Int} {x : Str} {H : Hp} {Q : VK} {E : XK} : sp_reckoned [.int w, .str x, .int a, .int b] H Q E = (W w ∧ Q (.int (unf x a b % 2 ^ w.toNat)) H) := rfl
theorem bitAnd_pp {x y : Int} (hx : 0 ≤ x) (hy : 0 ≤ y) : Builtin.bitAnd x y = ((x.toNat &&& y.toNat : Nat) : Int) := PyProof.Rows.bitAnd_pp hx hy
theorem bitOr_pp {x y : Int} (hx : 0 ≤ x) (hy : 0 ≤ y) : Builtin.bitOr x y = ((x.toNat ||| y.toNat : Nat) : Int) := by
  have h1 : decide (0 ≤ Builtin.bitNot x) = false := by simp [Builtin.bitNot]; omega
  have h2 : decide (0 ≤ Builtin.bitNot y) = false := by simp [Builtin.bitNot]; omega
  have nn : ∀ z : Int, Builtin.bitNot (Builtin.bitNot z) = z := fun z => by simp only [Builtin.bitNot]; omega
  unfold Builtin.bitOr Builtin.bitAnd
  rw [h1, h2]
  simp only [nn]
/-! ### forms and their tables -/
abbrev Fm := List Key
def nu (n : Int) : Fm := [.inr "number", .inl n]
def un (s : Str) (k : Int) : Fm := [.inr "unknown", .inr s, .inl k]
def o1 (x : Str) (a : Int) : Fm := [.inr x, .inl a]
def o2 (x : Str) (a b : Int) : Fm := [.inr x, .inl a, .inl b]
def hd : Fm → Str
  | .inr s :: _ => s
  | _ => ""
def ag (f : Fm) (i : Nat) : Int := match f[i]? with
  | some (.inl n) => n
  | _ => 0
def fa (fs : List Fm) (i : Int) : Fm := fs.getD i.toNat []
/-- a place of the table -/
def Pl (fs : List Fm) (i : Int) : Prop := 0 ≤ i ∧ i < fs.length
def At (fs : List Fm) (i : Int) (f : Fm) : Prop := Pl fs i ∧ fa fs i = f
theorem fa_app {fs gs : List Fm} {i : Int} (h : Pl fs i) : fa (fs ++ gs) i = fa fs i := by
  obtain ⟨h0, h1⟩ := h
  unfold fa
  rw [List.getD_eq_getElem?_getD, List.getD_eq_getElem?_getD, List.getElem?_append_left (by omega)]
theorem Pl.app {fs gs : List Fm} {i : Int} (h : Pl fs i) : Pl (fs ++ gs) i := ⟨h.1, by have := h.2; rw [List.length_append]; omega⟩
theorem At.app {fs gs : List Fm} {i : Int} {f : Fm} (h : At fs i f) : At (fs ++ gs) i f := ⟨h.1.app, by rw [fa_app h.1]; exact h.2⟩
def Ex (fs fs' : List Fm) : Prop := ∃ gs, fs' = fs ++ gs
theorem Ex.refl (fs : List Fm) : Ex fs fs := ⟨[], by simp⟩
theorem Ex.trans {a b c : List Fm} (h : Ex a b) (h' : Ex b c) : Ex a c := by
  obtain ⟨x, rfl⟩ := h
  obtain ⟨y, rfl⟩ := h'
  exact ⟨x ++ y, by simp⟩
theorem At.ex {fs fs' : List Fm} {i : Int} {f : Fm} (h : At fs i f) (e : Ex fs fs') : At fs' i f := by
  obtain ⟨gs, rfl⟩ := e
  exact h.app
theorem Pl.ex {fs fs' : List Fm} {i : Int} (h : Pl fs i) (e : Ex fs fs') : Pl fs' i := by
  obtain ⟨gs, rfl⟩ := e
  exact h.app
theorem fa_ex {fs fs' : List Fm} {i : Int} (h : Pl fs i) (e : Ex fs fs') : fa fs' i = fa fs i := by
  obtain ⟨gs, rfl⟩ := e
  exact fa_app h
/-- no form stands twice -/
def Uq (fs : List Fm) : Prop := ∀ i j f, At fs i f → At fs j f → i = j
inductive Sh (m : Int) (fs : List Fm) : Fm → Prop where
  | num {v : Int} : 0 ≤ v → v < m → Sh m fs (nu v)
  | unk {s : Str} {k : Int} : Sh m fs (un s k)
  | plus {a n : Int} : Pl fs a → 0 < n → n < m → hd (fa fs a) ≠ "plus" → hd (fa fs a) ≠ "number" → Sh m fs (o2 "plus" a n)
  | one {x : Str} {a : Int} : Pl fs a → x ≠ "number" → x ≠ "plus" → hd (fa fs a) ≠ "number" → (x = "not" → hd (fa fs a) ≠ "not") → Sh m fs (o1 x a)
  | two {x : Str} {a b : Int} : x ≠ "number" → x ≠ "plus" → x ≠ "not" → Sh m fs (o2 x a b)
theorem Sh.ex {m : Int} {fs fs' : List Fm} {f : Fm} (h : Sh m fs f) (e : Ex fs fs') : Sh m fs' f := by
  cases h with
  | num a b => exact .num a b
  | unk => exact .unk
  | plus p a b c d => exact .plus (p.ex e) a b (by rw [fa_ex p e]; exact c) (by rw [fa_ex p e]; exact d)
  | one p a b c d => exact .one (p.ex e) a b (by rw [fa_ex p e]; exact c) (by rw [fa_ex p e]; exact d)
  | two a b c => exact .two a b c
def Wf (m : Int) (fs : List Fm) : Prop := ∀ i, Pl fs i → Sh m fs (fa fs i)
theorem fa_snoc {fs : List Fm} {f : Fm} : fa (fs ++ [f]) fs.length = f := by
  simp [fa, List.getD_eq_getElem?_getD]
theorem Wf.snoc {m : Int} {fs : List Fm} {f : Fm} (h : Wf m fs) (s : Sh m fs f) : Wf m (fs ++ [f]) := by
  intro i hi
  by_cases p : Pl fs i
  · rw [fa_app p]; exact (h i p).ex ⟨_, rfl⟩
  · have e : i = fs.length := by
      obtain ⟨a, b⟩ := hi
      rw [List.length_append] at b
      simp at b
      have : ¬ i < fs.length := fun z => p ⟨a, z⟩
      omega
    subst e
    rw [fa_snoc]
    exact s.ex ⟨_, rfl⟩
theorem Uq.snoc {fs : List Fm} {f : Fm} (h : Uq fs) (n : ∀ i, ¬ At fs i f) : Uq (fs ++ [f]) := by
  have key : ∀ i g, At (fs ++ [f]) i g → At fs i g ∨ i = fs.length ∧ g = f := by
    intro i g hi
    by_cases p : Pl fs i
    · exact .inl ⟨p, by rw [← hi.2, fa_app p]⟩
    · have e : i = fs.length := by
        obtain ⟨⟨a, b⟩, _⟩ := hi
        rw [List.length_append] at b
        simp at b
        have : ¬ i < fs.length := fun z => p ⟨a, z⟩
        omega
      subst e
      exact .inr ⟨rfl, by rw [← hi.2, fa_snoc]⟩
  intro i j g hi hj
  rcases key i g hi with a | ⟨a, ea⟩ <;> rcases key j g hj with b | ⟨b, eb⟩
  · exact h i j g a b
  · exact absurd (eb ▸ a) (n i)
  · exact absurd (ea ▸ b) (n j)
  · rw [a, b]
/-- a form is told: it stands there, or is put behind -/
structure Put (fs : List Fm) (f : Fm) (i : Int) (fs' : List Fm) : Prop where
  at_ : At fs' i f
  ex : Ex fs fs'
  le : fs'.length ≤ fs.length + 1
/-! ### what is made -/
def mk1 (m : Int) (fs : List Fm) (x : Str) (a : Int) : Fm :=
  if hd (fa fs a) = "number" then nu (unf x (ag (fa fs a) 1) 0 % m)
  else if x = "not" ∧ hd (fa fs a) = "not" then fa fs (ag (fa fs a) 1)
  else o1 x a
def pl0 (m : Int) (fs : List Fm) (a n : Int) : Fm := if n % m = 0 then fa fs a else o2 "plus" a (n % m)
def pls (m : Int) (fs : List Fm) (a n : Int) : Fm := if hd (fa fs a) = "plus" then pl0 m fs (ag (fa fs a) 1) (ag (fa fs a) 2 + n) else pl0 m fs a n
def wn (m : Int) (fs : List Fm) (x : Str) (a c : Int) : Fm :=
  if x = "add" then pls m fs a (ag (fa fs c) 1) else if x = "sub" then pls m fs a (-ag (fa fs c) 1)
  else if ag (fa fs c) 1 = 0 then (if x = "and" then nu 0 else fa fs a) else o2 x a c
def mk2 (m : Int) (fs : List Fm) (x : Str) (a b : Int) : Fm :=
  if hd (fa fs a) = "number" ∧ hd (fa fs b) = "number" then nu (unf x (ag (fa fs a) 1) (ag (fa fs b) 1) % m)
  else if hd (fa fs b) = "number" then wn m fs x a b
  else if x = "sub" then (if a = b then nu 0 else o2 x a b)
  else if hd (fa fs a) = "number" then wn m fs x b a
  else if a = b ∧ x ≠ "add" then (if x = "xor" then nu 0 else fa fs a)
  else o2 x (if b < a then b else a) (if b > a then b else a)
/-- what a place has -/
theorem Wf.num {m : Int} {fs : List Fm} {i : Int} (h : Wf m fs) (p : Pl fs i) (e : hd (fa fs i) = "number") : ∃ v, fa fs i = nu v ∧ 0 ≤ v ∧ v < m := by
  have s := h i p
  generalize fa fs i = f at s e
  cases s with
  | num a b => exact ⟨_, rfl, a, b⟩
  | unk => exact absurd (show ("unknown" : Str) = "number" from e) (by decide)
  | plus => exact absurd (show ("plus" : Str) = "number" from e) (by decide)
  | one _ a => exact absurd e a
  | two a => exact absurd e a
theorem Wf.plus {m : Int} {fs : List Fm} {i : Int} (h : Wf m fs) (p : Pl fs i) (e : hd (fa fs i) = "plus") : ∃ a n, fa fs i = o2 "plus" a n ∧ Pl fs a ∧ 0 < n ∧ n < m ∧ hd (fa fs a) ≠ "plus" ∧ hd (fa fs a) ≠ "number" := by
  have s := h i p
  generalize fa fs i = f at s e
  cases s with
  | num a b => exact absurd (show ("number" : Str) = "plus" from e) (by decide)
  | unk => exact absurd (show ("unknown" : Str) = "plus" from e) (by decide)
  | plus p a b c d => exact ⟨_, _, rfl, p, a, b, c, d⟩
  | one _ _ a => exact absurd e a
  | two _ a => exact absurd e a
theorem Wf.nots {m : Int} {fs : List Fm} {i : Int} (h : Wf m fs) (p : Pl fs i) (e : hd (fa fs i) = "not") : ∃ a, fa fs i = o1 "not" a ∧ Pl fs a ∧ hd (fa fs a) ≠ "number" ∧ hd (fa fs a) ≠ "not" := by
  have s := h i p
  generalize fa fs i = f at s e
  cases s with
  | num a b => exact absurd (show ("number" : Str) = "not" from e) (by decide)
  | unk => exact absurd (show ("unknown" : Str) = "not" from e) (by decide)
  | plus => exact absurd (show ("plus" : Str) = "not" from e) (by decide)
  | @one x a q b c d g => cases (show x = "not" from e); exact ⟨_, rfl, q, d, g rfl⟩
  | two _ _ a => exact absurd e a
/-! ### they keep to the table -/
theorem pl0_sh {m : Int} {fs : List Fm} {a n : Int} (hm : 0 < m) (h : Wf m fs) (p : Pl fs a) (h1 : hd (fa fs a) ≠ "plus") (h2 : hd (fa fs a) ≠ "number") : Sh m fs (pl0 m fs a n) := by
  unfold pl0
  split
  · exact h a p
  · have h3 := Int.emod_nonneg n (show m ≠ 0 by omega)
    exact .plus p (by omega) (Int.emod_lt_of_pos n hm) h1 h2
theorem pls_sh {m : Int} {fs : List Fm} {a n : Int} (hm : 0 < m) (h : Wf m fs) (p : Pl fs a) (h2 : hd (fa fs a) ≠ "number") : Sh m fs (pls m fs a n) := by
  unfold pls
  split
  · next e =>
    obtain ⟨b, k, eb, pb, _, _, c, d⟩ := h.plus p e
    rw [eb]
    exact pl0_sh hm h pb c d
  · next e => exact pl0_sh hm h p e h2
theorem nu_sh {m : Int} {fs : List Fm} (hm : 0 < m) (n : Int) : Sh m fs (nu (n % m)) := .num (Int.emod_nonneg n (by omega)) (Int.emod_lt_of_pos n hm)
theorem nu0_sh {m : Int} {fs : List Fm} (hm : 0 < m) : Sh m fs (nu 0) := .num (by omega) hm
/-- a word of two -/
def W2 (x : Str) : Prop := x = "add" ∨ x = "sub" ∨ x = "and" ∨ x = "or" ∨ x = "xor"
theorem W2.ne {x : Str} (h : W2 x) : x ≠ "number" ∧ x ≠ "plus" ∧ x ≠ "not" := by
  rcases h with rfl | rfl | rfl | rfl | rfl <;> exact ⟨by decide, by decide, by decide⟩
theorem wn_sh {m : Int} {fs : List Fm} {x : Str} {a c : Int} (hm : 0 < m) (h : Wf m fs) (hx : W2 x) (p : Pl fs a) (h2 : hd (fa fs a) ≠ "number") : Sh m fs (wn m fs x a c) := by
  unfold wn
  split
  · exact pls_sh hm h p h2
  split
  · exact pls_sh hm h p h2
  split
  · split
    · exact nu0_sh hm
    · exact h a p
  · exact .two hx.ne.1 hx.ne.2.1 hx.ne.2.2
theorem mk2_sh {m : Int} {fs : List Fm} {x : Str} {a b : Int} (hm : 0 < m) (h : Wf m fs) (hx : W2 x) (pa : Pl fs a) (pb : Pl fs b) : Sh m fs (mk2 m fs x a b) := by
  unfold mk2
  split
  · exact nu_sh hm _
  next e =>
  split
  · next e2 => exact wn_sh hm h hx pa fun z => e ⟨z, e2⟩
  next e2 =>
  split
  · split
    · exact nu0_sh hm
    · exact .two hx.ne.1 hx.ne.2.1 hx.ne.2.2
  split
  · exact wn_sh hm h hx pb e2
  split
  · split
    · exact nu0_sh hm
    · exact h a pa
  · exact .two hx.ne.1 hx.ne.2.1 hx.ne.2.2
theorem mk1_sh {m : Int} {fs : List Fm} {x : Str} {a : Int} (hm : 0 < m) (h : Wf m fs) (h1 : x ≠ "number") (h2 : x ≠ "plus") (pa : Pl fs a) : Sh m fs (mk1 m fs x a) := by
  unfold mk1
  split
  · exact nu_sh hm _
  next e =>
  split
  · next e2 =>
    obtain ⟨b, eb, pb, _, _⟩ := h.nots pa e2.2
    rw [eb]
    exact h b pb
  · next e2 => exact .one pa h1 h2 e fun z y => e2 ⟨z, y⟩
/-! ### a longer table makes the same -/
theorem pl0_ex {m : Int} {fs fs' : List Fm} {a n : Int} (e : Ex fs fs') (p : Pl fs a) : pl0 m fs' a n = pl0 m fs a n := by
  unfold pl0; rw [fa_ex p e]
theorem pls_ex {m : Int} {fs fs' : List Fm} {a n : Int} (h : Wf m fs) (e : Ex fs fs') (p : Pl fs a) : pls m fs' a n = pls m fs a n := by
  unfold pls
  rw [fa_ex p e]
  split
  · next g =>
    obtain ⟨b, k, eb, pb, _⟩ := h.plus p g
    rw [eb]
    exact pl0_ex e pb
  · exact pl0_ex e p
theorem wn_ex {m : Int} {fs fs' : List Fm} {x : Str} {a c : Int} (h : Wf m fs) (e : Ex fs fs') (p : Pl fs a) (q : Pl fs c) : wn m fs' x a c = wn m fs x a c := by
  unfold wn
  rw [fa_ex p e, fa_ex q e, pls_ex h e p, pls_ex h e p]
theorem mk2_ex {m : Int} {fs fs' : List Fm} {x : Str} {a b : Int} (h : Wf m fs) (e : Ex fs fs') (p : Pl fs a) (q : Pl fs b) : mk2 m fs' x a b = mk2 m fs x a b := by
  unfold mk2
  rw [fa_ex p e, fa_ex q e, wn_ex h e p q, wn_ex h e q p]
theorem mk1_ex {m : Int} {fs fs' : List Fm} {x : Str} {a : Int} (h : Wf m fs) (e : Ex fs fs') (p : Pl fs a) : mk1 m fs' x a = mk1 m fs x a := by
  unfold mk1
  rw [fa_ex p e]
  split
  · rfl
  split
  · next g =>
    obtain ⟨b, eb, pb, _⟩ := h.nots p g.2
    rw [eb]
    exact fa_ex pb e
  · rfl
/-! ### like terms -/
theorem unf_comm {x : Str} {a b : Int} (hx : x = "add" ∨ x = "and" ∨ x = "or" ∨ x = "xor") (ha : 0 ≤ a) (hb : 0 ≤ b) : unf x a b = unf x b a := by
  have e1 : Builtin.bitAnd a b = Builtin.bitAnd b a := by rw [bitAnd_pp ha hb, bitAnd_pp hb ha, Nat.and_comm]
  have e2 : Builtin.bitOr a b = Builtin.bitOr b a := by rw [bitOr_pp ha hb, bitOr_pp hb ha, Nat.or_comm]
  rcases hx with rfl | rfl | rfl | rfl
  · exact Int.add_comm a b
  · exact e1
  · exact e2
  · show Builtin.bitOr a b - Builtin.bitAnd a b = Builtin.bitOr b a - Builtin.bitAnd b a
    rw [e1, e2]
theorem mk2_comm {m : Int} {fs : List Fm} {x : Str} {a b : Int} (h : Wf m fs) (hx : x = "add" ∨ x = "and" ∨ x = "or" ∨ x = "xor") (p : Pl fs a) (q : Pl fs b) : mk2 m fs x a b = mk2 m fs x b a := by
  have ns : x ≠ "sub" := by rcases hx with rfl | rfl | rfl | rfl <;> decide
  unfold mk2
  by_cases ea : hd (fa fs a) = "number" <;> by_cases eb : hd (fa fs b) = "number"
  · rw [if_pos ⟨ea, eb⟩, if_pos ⟨eb, ea⟩]
    obtain ⟨v, ev, v0, _⟩ := h.num p ea
    obtain ⟨u, eu, u0, _⟩ := h.num q eb
    rw [ev, eu]
    show nu (unf x v u % m) = nu (unf x u v % m)
    rw [unf_comm hx v0 u0]
  · rw [if_neg fun z => eb z.2, if_neg eb, if_neg ns, if_pos ea, if_neg fun z => eb z.1, if_pos ea]
  · rw [if_neg fun z => ea z.1, if_pos eb, if_neg fun z => ea z.2, if_neg ea, if_neg ns, if_pos eb]
  · simp only [ea, eb, ns, false_and, and_false, ↓reduceIte]
    by_cases e : a = b
    · subst e; rfl
    · have e' : ¬ b = a := fun z => e z.symm
      simp only [e, e', false_and, ↓reduceIte]
      have : (if b < a then b else a) = (if a < b then a else b) := by split <;> split <;> omega
      rw [this]
      have : (if b > a then b else a) = (if a > b then a else b) := by split <;> split <;> omega
      rw [this]
theorem emod_in {m v : Int} (h0 : 0 ≤ v) (h1 : v < m) : v % m = v := Int.emod_eq_of_lt h0 h1
theorem pls_mod {m : Int} {fs : List Fm} {a n k : Int} (e : n % m = k % m) : pls m fs a n = pls m fs a k := by
  have e2 : ∀ c : Int, (c + n) % m = (c + k) % m := fun c => by rw [Int.add_emod, e, ← Int.add_emod]
  unfold pls pl0
  rw [e2, e]
theorem pls_zero {m : Int} {fs : List Fm} {a n : Int} (h : Wf m fs) (p : Pl fs a) (e : n % m = 0) : pls m fs a n = fa fs a := by
  have e0 : pls m fs a n = pls m fs a 0 := pls_mod (by rw [e, Int.zero_emod])
  rw [e0]
  unfold pls
  split
  · next g =>
    obtain ⟨b, k, eb, pb, k0, k1, _⟩ := h.plus p g
    rw [eb]
    show pl0 m fs b (k + 0) = o2 "plus" b k
    unfold pl0
    rw [Int.add_zero, emod_in (by omega) k1, if_neg (by omega)]
  · unfold pl0
    rw [Int.zero_emod, if_pos rfl]
theorem pls_pls {m : Int} {fs : List Fm} {x i n k : Int} (h : Wf m fs) (u : Uq fs) (p : Pl fs x) (np : hd (fa fs x) ≠ "number") (a : At fs i (pls m fs x n)) : hd (fa fs i) ≠ "number" ∧ pls m fs i k = pls m fs x (n + k) := by
  have key : ∀ b c : Int, Pl fs b → hd (fa fs b) ≠ "plus" → hd (fa fs b) ≠ "number" → At fs i (pl0 m fs b c) → hd (fa fs i) ≠ "number" ∧ pls m fs i k = pl0 m fs b (c + k) := by
    intro b c pb h1 h2 ai
    unfold pl0 at ai
    split at ai
    · next z =>
      have e : i = b := u i b _ ai ⟨pb, rfl⟩
      subst e
      refine ⟨h2, ?_⟩
      unfold pls
      rw [if_neg h1]
      unfold pl0
      rw [show (c + k) % m = k % m by rw [Int.add_emod, z, Int.zero_add, Int.emod_emod]]
    · next z =>
      have e := ai.2
      refine ⟨by rw [e]; exact (show ("plus" : Str) ≠ "number" by decide), ?_⟩
      unfold pls
      rw [e]
      show (if ("plus" : Str) = "plus" then pl0 m fs b (c % m + k) else _) = _
      rw [if_pos rfl]
      unfold pl0
      rw [show (c % m + k) % m = (c + k) % m by rw [Int.emod_add_emod]]
  unfold pls at a
  split at a
  · next g =>
    obtain ⟨b, k2, eb, pb, _, _, c, d⟩ := h.plus p g
    rw [eb] at a
    obtain ⟨r1, r2⟩ := key b (k2 + n) pb c d a
    refine ⟨r1, r2.trans ?_⟩
    unfold pls
    rw [if_pos g, eb]
    show pl0 m fs b (k2 + n + k) = pl0 m fs b (k2 + (n + k))
    rw [Int.add_assoc]
  · next g =>
    obtain ⟨r1, r2⟩ := key x n p g np a
    refine ⟨r1, r2.trans ?_⟩
    unfold pls
    rw [if_neg g]
/-- with a number -/
theorem mk2_nn {m : Int} {fs : List Fm} {x : Str} {a b v u : Int} (ha : fa fs a = nu v) (hb : fa fs b = nu u) : mk2 m fs x a b = nu (unf x v u % m) := by
  unfold mk2
  rw [ha, hb, if_pos ⟨rfl, rfl⟩]
  rfl
theorem mk2_fn {m : Int} {fs : List Fm} {x : Str} {a b u : Int} (ha : hd (fa fs a) ≠ "number") (hb : fa fs b = nu u) : mk2 m fs x a b = wn m fs x a b := by
  unfold mk2
  have hb' : hd (fa fs b) = "number" := by rw [hb]; rfl
  rw [if_neg fun z => ha z.1, if_pos hb']
theorem mk2_z {m : Int} {fs : List Fm} {x : Str} {a z : Int} (hm : 0 < m) (h : Wf m fs) (p : Pl fs a) (hz : fa fs z = nu 0) (hx : x = "add" ∨ x = "sub" ∨ x = "or" ∨ x = "xor") : mk2 m fs x a z = fa fs a := by
  by_cases ea : hd (fa fs a) = "number"
  · obtain ⟨v, ev, v0, v1⟩ := h.num p ea
    rw [mk2_nn ev hz, ev]
    have e : unf x v 0 = v := by
      have b1 : Builtin.bitOr v 0 = v := by rw [bitOr_pp v0 (Int.le_refl 0)]; simp; omega
      have b2 : Builtin.bitAnd v 0 = 0 := by rw [bitAnd_pp v0 (Int.le_refl 0)]; simp
      rcases hx with rfl | rfl | rfl | rfl
      · exact Int.add_zero v
      · exact Int.sub_zero v
      · exact b1
      · show Builtin.bitOr v 0 - Builtin.bitAnd v 0 = v
        rw [b1, b2, Int.sub_zero]
    rw [e, emod_in v0 v1]
  · rw [mk2_fn ea hz]
    unfold wn
    rw [hz]
    rcases hx with rfl | rfl | rfl | rfl
    · exact pls_zero h p (Int.zero_emod m)
    · exact pls_zero h p (Int.zero_emod m)
    · rfl
    · rfl
theorem mk2_andz {m : Int} {fs : List Fm} {a z : Int} (h : Wf m fs) (p : Pl fs a) (hz : fa fs z = nu 0) : mk2 m fs "and" a z = nu 0 := by
  by_cases ea : hd (fa fs a) = "number"
  · obtain ⟨v, ev, v0, v1⟩ := h.num p ea
    rw [mk2_nn ev hz]
    show nu (Builtin.bitAnd v 0 % m) = nu 0
    rw [bitAnd_pp v0 (Int.le_refl 0)]
    simp
  · rw [mk2_fn ea hz]
    unfold wn
    rw [hz]
    rfl
theorem mk2_self {m : Int} {fs : List Fm} {x : Str} {a : Int} (h : Wf m fs) (p : Pl fs a) (hx : x = "and" ∨ x = "or") : mk2 m fs x a a = fa fs a := by
  by_cases ea : hd (fa fs a) = "number"
  · obtain ⟨v, ev, v0, v1⟩ := h.num p ea
    rw [mk2_nn ev ev, ev]
    have e : unf x v v = v := by
      rcases hx with rfl | rfl
      · show Builtin.bitAnd v v = v
        rw [bitAnd_pp v0 v0]; simp; omega
      · show Builtin.bitOr v v = v
        rw [bitOr_pp v0 v0]; simp; omega
    rw [e, emod_in v0 v1]
  · have s1 : x ≠ "sub" := by rcases hx with rfl | rfl <;> decide
    have s2 : x ≠ "add" := by rcases hx with rfl | rfl <;> decide
    have s3 : x ≠ "xor" := by rcases hx with rfl | rfl <;> decide
    unfold mk2
    rw [if_neg fun z => ea z.1, if_neg ea, if_neg s1, if_neg ea, if_pos ⟨rfl, s2⟩, if_neg s3]
theorem mk2_nought {m : Int} {fs : List Fm} {x : Str} {a : Int} (h : Wf m fs) (p : Pl fs a) (hx : x = "sub" ∨ x = "xor") : mk2 m fs x a a = nu 0 := by
  by_cases ea : hd (fa fs a) = "number"
  · obtain ⟨v, ev, v0, v1⟩ := h.num p ea
    rw [mk2_nn ev ev]
    have e : unf x v v = 0 := by
      rcases hx with rfl | rfl
      · exact Int.sub_self v
      · show Builtin.bitOr v v - Builtin.bitAnd v v = 0
        rw [bitAnd_pp v0 v0, bitOr_pp v0 v0]; simp
    rw [e, Int.zero_emod]
  · unfold mk2
    rw [if_neg fun z => ea z.1, if_neg ea]
    rcases hx with rfl | rfl
    · rw [if_pos rfl, if_pos rfl]
    · rw [if_neg (show ("xor" : Str) ≠ "sub" by decide), if_neg ea, if_pos ⟨rfl, (show ("xor" : Str) ≠ "add" by decide)⟩, if_pos rfl]
theorem mk1_not2 {m : Int} {fs : List Fm} {a i : Int} (hm : 0 < m) (h : Wf m fs) (u : Uq fs) (p : Pl fs a) (ai : At fs i (mk1 m fs "not" a)) : mk1 m fs "not" i = fa fs a := by
  unfold mk1 at ai
  split at ai
  · next e =>
    obtain ⟨v, ev, v0, v1⟩ := h.num p e
    rw [ev] at ai
    have e2 : fa fs i = nu ((-1 - v) % m) := ai.2
    unfold mk1
    rw [e2, if_pos (show hd (nu _) = "number" from rfl), ev]
    show nu ((-1 - ((-1 - v) % m)) % m) = nu v
    rw [Int.sub_emod, Int.emod_emod, ← Int.sub_emod, show (-1 - (-1 - v)) = v by omega, emod_in v0 v1]
  next e =>
  split at ai
  · next e2 =>
    obtain ⟨b, eb, pb, c, d⟩ := h.nots p e2.2
    rw [eb] at ai
    have ib : i = b := u i b _ ai ⟨pb, rfl⟩
    subst ib
    unfold mk1
    rw [if_neg c, if_neg fun z => d z.2, eb]
  · next e2 =>
    have e3 : fa fs i = o1 "not" a := ai.2
    unfold mk1
    rw [e3, if_neg (show ¬ hd (o1 "not" a) = "number" from (show ("not" : Str) ≠ "number" by decide)), if_pos ⟨rfl, rfl⟩]
    rfl
theorem mk2_subadd {m : Int} {fs : List Fm} {x a b f : Int} (h : Wf m fs) (p : Pl fs x) (ha : fa fs a = nu f) (hb : fa fs b = nu ((0 - f) % m)) : mk2 m fs "sub" x a = mk2 m fs "add" x b := by
  by_cases ex : hd (fa fs x) = "number"
  · obtain ⟨v, ev, v0, v1⟩ := h.num p ex
    rw [mk2_nn ev ha, mk2_nn ev hb]
    show nu ((v - f) % m) = nu ((v + (0 - f) % m) % m)
    rw [Int.add_emod_emod, show v + (0 - f) = v - f by omega]
  · rw [mk2_fn ex ha, mk2_fn ex hb]
    unfold wn
    rw [ha, hb]
    show pls m fs x (-f) = pls m fs x ((0 - f) % m)
    exact pls_mod (by rw [Int.emod_emod, show (0 - f) = -f by omega])
theorem mk2_addadd {m : Int} {fs : List Fm} {x a b c i f g : Int} (h : Wf m fs) (u : Uq fs) (p : Pl fs x) (ha : fa fs a = nu f) (hb : fa fs b = nu g) (hc : fa fs c = nu ((f + g) % m)) (ai : At fs i (mk2 m fs "add" x a)) : mk2 m fs "add" i b = mk2 m fs "add" x c := by
  by_cases ex : hd (fa fs x) = "number"
  · obtain ⟨v, ev, v0, v1⟩ := h.num p ex
    rw [mk2_nn ev ha] at ai
    have ei : fa fs i = nu ((v + f) % m) := ai.2
    rw [mk2_nn ei hb, mk2_nn ev hc]
    show nu (((v + f) % m + g) % m) = nu ((v + (f + g) % m) % m)
    rw [Int.emod_add_emod, Int.add_emod_emod, Int.add_assoc]
  · rw [mk2_fn ex ha] at ai
    have ai' : At fs i (pls m fs x f) := by
      unfold wn at ai
      rw [ha] at ai
      exact ai
    obtain ⟨r1, r2⟩ := pls_pls (k := g) h u p ex ai'
    rw [mk2_fn r1 hb, mk2_fn ex hc]
    unfold wn
    rw [hb, hc]
    show pls m fs i g = pls m fs x ((f + g) % m)
    rw [r2]
    exact pls_mod (by rw [Int.emod_emod])
theorem mk1_n {m : Int} {fs : List Fm} {x : Str} {a v : Int} (ha : fa fs a = nu v) : mk1 m fs x a = nu (unf x v 0 % m) := by
  unfold mk1
  rw [ha, if_pos (show hd (nu _) = "number" from rfl)]
  rfl
/-! ### the table at an address -/
abbrev M (w : Int) : Int := 2 ^ w.toNat
theorem M_pos {w : Int} (h : W w) : 0 < M w := by have := pw h; show (0 : Int) < 2 ^ w.toNat; omega
def tF (w : Int) (l d : Addr) : List (Str × V) := [("width", .int w), ("forms", .ref l), ("places", .ref d)]
def Chg (l d : Addr) (H H' : Hp) : Prop := ∀ b o, b ≠ l → b ≠ d → H b = some o → H' b = some o
theorem Chg.of {l d : Addr} {H H' : Hp} (s : Same H H') : Chg l d H H' := fun b o _ _ e => s b o e
theorem Chg.trans {l d : Addr} {H H' H2 : Hp} (a : Chg l d H H') (b : Chg l d H' H2) : Chg l d H H2 := fun x o h1 h2 e => b x o h1 h2 (a x o h1 h2 e)
structure Tb (H : Hp) (C t : Addr) (w : Int) (l d : Addr) (fs : List Fm) : Prop where
  hw : W w
  ob : ∃ dx, H t = some (.ins C dx (tF w l d))
  li : ∃ as : List Addr, H l = some (.lst (as.map V.ref)) ∧ as.length = fs.length ∧ ∀ (i : Nat) (a : Addr), as[i]? = some a → H a = some (.tup ((fa fs i).map kV))
  di : ∃ kvs : List (List Key × V), H d = some (.dT kvs) ∧ kvs.length ≤ fs.length ∧ (∀ i f, At fs i f → valV kvs f = some (.int i)) ∧ ∀ f v, valV kvs f = some v → ∃ i, At fs i f
  wf : Wf (M w) fs
  uq : Uq fs
theorem Tb.same {H H' : Hp} {C t l d : Addr} {w : Int} {fs : List Fm} (T : Tb H C t w l d fs) (s : Same H H') : Tb H' C t w l d fs := by
  obtain ⟨dx, e⟩ := T.ob
  obtain ⟨as, el, la, ha⟩ := T.li
  obtain ⟨kvs, ed, r⟩ := T.di
  exact ⟨T.hw, ⟨dx, s _ _ e⟩, ⟨as, s _ _ el, la, fun i a h => s _ _ (ha i a h)⟩, ⟨kvs, s _ _ ed, r⟩, T.wf, T.uq⟩
theorem Tb.form {H : Hp} {C t l d : Addr} {w : Int} {fs : List Fm} {i : Int} (T : Tb H C t w l d fs) (p : Pl fs i) : ∃ xs b, H l = some (.lst xs) ∧ atI xs i = some (.ref b) ∧ H b = some (.tup ((fa fs i).map kV)) := by
  obtain ⟨as, el, la, ha⟩ := T.li
  obtain ⟨p0, p1⟩ := p
  obtain ⟨n, rfl⟩ := Int.eq_ofNat_of_zero_le p0
  have hn : n < as.length := by omega
  exact ⟨_, as[n], el, atI_nat (by rw [List.getElem?_map, List.getElem?_eq_getElem hn]; rfl), ha n _ (List.getElem?_eq_getElem hn)⟩
theorem Tb.put {H H1 H2 : Hp} {C t l d b : Addr} {w : Int} {fs : List Fm} {f : Fm} {as : List Addr} {kvs : List (List Key × V)} (T : Tb H C t w l d fs) (eb : H b = some (.tup (f.map kV))) (sh : Sh (M w) fs f)
    (el : H l = some (.lst (as.map V.ref))) (la : as.length = fs.length) (ha : ∀ (i : Nat) (a : Addr), as[i]? = some a → H a = some (.tup ((fa fs i).map kV)))
    (ed : H d = some (.dT kvs)) (kl : kvs.length ≤ fs.length) (kv : ∀ i f, At fs i f → valV kvs f = some (.int i)) (kn : ∀ f v, valV kvs f = some v → ∃ i, At fs i f) (hv : valV kvs f = none)
    (w1 : Wrt H l (.lst (as.map V.ref ++ [.ref b])) H1) (w2 : Wrt H1 d (.dT (putK kvs f (.int (fs.length : Int)))) H2) : Tb H2 C t w l d (fs ++ [f]) ∧ Chg l d H H2 ∧ Put fs f fs.length (fs ++ [f]) := by
  have nld : l ≠ d := ne_of el ed (fun z => nomatch z)
  have ch : Chg l d H H2 := fun x o h1 h2 e => by rw [w2.els x h2, w1.els x h1]; exact e
  have tup : ∀ (a : Addr) (ys : List V), H a = some (.tup ys) → H2 a = some (.tup ys) := fun a ys e => ch a _ (ne_of e el (fun z => nomatch z)) (ne_of e ed (fun z => nomatch z)) e
  obtain ⟨dx, et⟩ := T.ob
  refine ⟨⟨T.hw, ⟨dx, ch t _ (ne_of et el (fun z => nomatch z)) (ne_of et ed (fun z => nomatch z)) et⟩, ⟨as ++ [b], ?_, by rw [List.length_append, List.length_append, la]; rfl, fun i a h => ?_⟩, ⟨_, w2.at', ?_, fun i g hg => ?_, fun g v hg => ?_⟩, T.wf.snoc sh, T.uq.snoc fun i ai => ?_⟩, ch, ⟨⟨by omega, by rw [List.length_append]; simp; omega⟩, fa_snoc⟩, ⟨_, rfl⟩, by rw [List.length_append]; simp⟩
  · rw [w2.els l nld, w1.at', List.map_append]; rfl
  · by_cases hi : i < as.length
    · rw [List.getElem?_append_left hi] at h
      rw [fa_app ⟨by omega, by omega⟩]
      exact tup a _ (ha i a h)
    · rw [List.getElem?_append_right (by omega)] at h
      have hz : i - as.length = 0 := by
        have := (List.getElem?_eq_some_iff.mp h).1
        simp at this
        omega
      rw [hz] at h
      have e' : b = a := by simpa using h
      have hi' : (i : Int) = fs.length := by omega
      rw [hi', fa_snoc, ← e']
      exact tup b _ eb
  · have := length_putK kvs f (.int (fs.length : Int)); rw [List.length_append]; simp; omega
  · rw [valV_put]
    by_cases p : Pl fs i
    · have a' : At fs i g := ⟨p, by rw [← hg.2, fa_app p]⟩
      have := kv i g a'
      rw [if_neg fun z => by rw [z, hv] at this; cases this]
      exact this
    · have e : i = fs.length := by
        obtain ⟨⟨a, b⟩, _⟩ := hg
        rw [List.length_append] at b
        simp at b
        have : ¬ i < fs.length := fun z => p ⟨a, z⟩
        omega
      subst e
      rw [if_pos (by rw [← hg.2, fa_snoc])]
  · rw [valV_put] at hg
    split at hg
    · next e => exact ⟨fs.length, ⟨by omega, by rw [List.length_append]; simp; omega⟩, by rw [fa_snoc, e]⟩
    · obtain ⟨i, ai⟩ := kn g v hg
      exact ⟨i, ai.app⟩
  · have := kv i f ai
    rw [hv] at this
    cases this
theorem Sh.at0 {m : Int} {fs : List Fm} {f : Fm} (h : Sh m fs f) : atI (f.map kV) 0 = some (.str (hd f)) := by
  cases h <;> rfl
/-! ### promises -/
def tell (C t : Addr) (w : Int) (l d : Addr) (fs : List Fm) (f : Fm) (H : Hp) (Q : VK) : Prop := ∀ (i : Int) (H' : Hp) (fs' : List Fm), Put fs f i fs' → Tb H' C t w l d fs' → Chg l d H H' → Q (.int i) H'
def give (f : Fm) (H : Hp) (Q : VK) : Prop := ∀ (b : Addr) (H' : Hp), Same H H' → H' b = some (.tup (f.map kV)) → Q (.ref b) H'
def W1 (x : Str) : Prop := x = "not" ∨ x = "left" ∨ x = "right"
def sp_tinit (C : Addr) : Sp := spN [.r, .i] fun (t : Addr) (w : Int) (H : Hp) (Q : VK) => W w ∧ ∃ dx, H t = some (.ins C dx []) ∧ ∀ (H' : Hp) (l d : Addr), SameX t H H' → Tb H' C t w l d [] → H l = none → H d = none → Q .non H'
theorem rd_tinit {C t : Addr} {w : Int} {H : Hp} {Q : VK} {E : XK} : sp_tinit C [.ref t, .int w] H Q E = (W w ∧ ∃ dx, H t = some (.ins C dx []) ∧ ∀ (H' : Hp) (l d : Addr), SameX t H H' → Tb H' C t w l d [] → H l = none → H d = none → Q .non H') := rfl
def sp_term (C : Addr) : Sp := spN [.r, .r] fun (t : Addr) (b : Addr) (H : Hp) (Q : VK) => ∃ (w : Int) (l d : Addr) (fs : List Fm) (f : Fm), Tb H C t w l d fs ∧ fs.length < 4000 ∧ H b = some (.tup (f.map kV)) ∧ Sh (M w) fs f ∧ tell C t w l d fs f H Q
def sp_num (C : Addr) : Sp := spN [.r, .i] fun (t : Addr) (n : Int) (H : Hp) (Q : VK) => ∃ (w : Int) (l d : Addr) (fs : List Fm), Tb H C t w l d fs ∧ fs.length < 4000 ∧ tell C t w l d fs (nu (n % M w)) H Q
def sp_unk (C : Addr) : Sp := spN [.r, .s, .i] fun (t : Addr) (s : Str) (n : Int) (H : Hp) (Q : VK) => ∃ (w : Int) (l d : Addr) (fs : List Fm), Tb H C t w l d fs ∧ fs.length < 4000 ∧ tell C t w l d fs (un s n) H Q
def sp_known (C : Addr) : Sp := spN [.r, .i] fun (t : Addr) (a : Int) (H : Hp) (Q : VK) => ∃ (w : Int) (l d : Addr) (fs : List Fm), Tb H C t w l d fs ∧ Pl fs a ∧ Q (.bl (decide (hd (fa fs a) = "number"))) H
def sp_val (C : Addr) : Sp := spN [.r, .i] fun (t : Addr) (a : Int) (H : Hp) (Q : VK) => ∃ (w : Int) (l d : Addr) (fs : List Fm), Tb H C t w l d fs ∧ Pl fs a ∧ hd (fa fs a) = "number" ∧ Q (.int (ag (fa fs a) 1)) H
def sp_one (C : Addr) : Sp := spN [.r, .s, .i] fun (t : Addr) (x : Str) (a : Int) (H : Hp) (Q : VK) => ∃ (w : Int) (l d : Addr) (fs : List Fm), Tb H C t w l d fs ∧ Pl fs a ∧ give (mk1 (M w) fs x a) H Q
def sp_two (C : Addr) : Sp := spN [.r, .s, .i, .i] fun (t : Addr) (x : Str) (a : Int) (b : Int) (H : Hp) (Q : VK) => ∃ (w : Int) (l d : Addr) (fs : List Fm), Tb H C t w l d fs ∧ Pl fs a ∧ Pl fs b ∧ give (mk2 (M w) fs x a b) H Q
def sp_wn (C : Addr) : Sp := spN [.r, .s, .i, .i] fun (t : Addr) (x : Str) (a : Int) (c : Int) (H : Hp) (Q : VK) => ∃ (w : Int) (l d : Addr) (fs : List Fm), Tb H C t w l d fs ∧ Pl fs a ∧ Pl fs c ∧ hd (fa fs c) = "number" ∧ give (wn (M w) fs x a c) H Q
def sp_pls (C : Addr) (bb : Bool) : Sp := spN [.r, .i, .i] fun (t : Addr) (a : Int) (n : Int) (H : Hp) (Q : VK) => ∃ (w : Int) (l d : Addr) (fs : List Fm), Tb H C t w l d fs ∧ Pl fs a ∧ (bb = false → hd (fa fs a) ≠ "plus") ∧ give (pls (M w) fs a n) H Q
def sp_no : Sp := fun _ _ _ _ => False
def sp_make (C : Addr) : Sp := fun vs H Q _ => ∃ (t : Addr) (x : Str) (a : Int) (v : V) (w : Int) (l d : Addr) (fs : List Fm), vs = [.ref t, .str x, .int a, v] ∧ Tb H C t w l d fs ∧ fs.length < 4000 ∧ Pl fs a ∧
  (W1 x ∧ tell C t w l d fs (mk1 (M w) fs x a) H Q ∨ ∃ b, v = .int b ∧ W2 x ∧ Pl fs b ∧ tell C t w l d fs (mk2 (M w) fs x a b) H Q)
/-! ### asking a table -/
section
variable {P : Program} {wd : World} {K : PySem.W.Frag} {mg : Str → Option Value} {base : Heap} {H : Hp} {C t l d : Addr} {w : Int} {fs : List Fm} {Q : VK} {E : XK}
theorem cut {nm : Str} {k : Nat} {sp : Sp} {R : Sp → Prop} (m : MCal P wd K mg base C nm k sp) (T : Tb H C t w l d fs) (h : R sp) (hn : (tF w l d).lookup nm = none := by rfl) :
    ∃ (C' : Addr) (dx : Addr) (g : List (Str × V)) (sp' : Sp), H t = some (.ins C' dx g) ∧ g.lookup nm = none ∧ MCal P wd K mg base C' nm k sp' ∧ R sp' :=
  let ⟨dx, e⟩ := T.ob; ⟨C, dx, _, sp, e, hn, m, h⟩
theorem cutD {nm : Str} {k : Nat} {sp : Sp} {dvs : List V} {R : Sp → Prop} (m : MCalD P wd K mg base C nm k sp dvs) (T : Tb H C t w l d fs) (h : R sp) (hn : (tF w l d).lookup nm = none := by rfl) :
    ∃ (C' : Addr) (dx : Addr) (g : List (Str × V)) (sp' : Sp), H t = some (.ins C' dx g) ∧ g.lookup nm = none ∧ MCalD P wd K mg base C' nm k sp' dvs ∧ R sp' :=
  let ⟨dx, e⟩ := T.ob; ⟨C, dx, _, sp, e, hn, m, h⟩
theorem fld {nm : Str} {v : V} {R : V → Prop} (hc : Cls K C) (na : NoAttr K C nm) (T : Tb H C t w l d fs) (e : (tF w l d).lookup nm = some v) (h : R v) :
    ∃ (C' : Addr) (dx : Addr) (g : List (Str × V)) (v' : V), H t = some (.ins C' dx g) ∧ Cls K C' ∧ NoAttr K C' nm ∧ g.lookup nm = some v' ∧ R v' :=
  let ⟨dx, eo⟩ := T.ob; ⟨C, dx, _, v, eo, hc, na, e, h⟩
theorem t_num {n : Int} (T : Tb H C t w l d fs) (z : fs.length < 4000) (k : tell C t w l d fs (nu (n % M w)) H Q) : sp_num C [.ref t, .int n] H Q E := ⟨w, l, d, fs, T, z, k⟩
theorem t_unk {s : Str} {n : Int} (T : Tb H C t w l d fs) (z : fs.length < 4000) (k : tell C t w l d fs (un s n) H Q) : sp_unk C [.ref t, .str s, .int n] H Q E := ⟨w, l, d, fs, T, z, k⟩
theorem t_mk2 {x : Str} {a b : Int} (T : Tb H C t w l d fs) (z : fs.length < 4000) (hx : W2 x) (pa : Pl fs a) (pb : Pl fs b) (k : tell C t w l d fs (mk2 (M w) fs x a b) H Q) : sp_make C [.ref t, .str x, .int a, .int b] H Q E :=
  ⟨t, x, a, _, w, l, d, fs, rfl, T, z, pa, .inr ⟨b, rfl, hx, pb, k⟩⟩
theorem t_mk1 {x : Str} {a : Int} {v : V} (T : Tb H C t w l d fs) (z : fs.length < 4000) (hx : W1 x) (pa : Pl fs a) (k : tell C t w l d fs (mk1 (M w) fs x a) H Q) : sp_make C [.ref t, .str x, .int a, v] H Q E :=
  ⟨t, x, a, _, w, l, d, fs, rfl, T, z, pa, .inl ⟨hx, k⟩⟩
end
theorem shareR {c p A R : Prop} [Decidable c] (hp : ¬ c → p) (ha : c → (p → R) → A) (k : p → R) : if c then A else R := by
  by_cases h : c
  · rw [if_pos h]; exact ha h k
  · rw [if_neg h]; exact k (hp h)
theorem shareV {c A : Prop} [Decidable c] {p R : Int → Prop} (h1 : c → (∀ u, p u → R u) → A) (k : ∀ u, p u → R u) : ∀ v, p v → if c then A else R v := by
  intro v h0
  by_cases h : c
  · rw [if_pos h]; exact h1 h k
  · rw [if_neg h]; exact k v h0
abbrev wordsV : List V := [.str "not", .str "left", .str "right"]
def tfs : List Str := ["width", "forms", "places"]
theorem ti0 : ("width" : Str) ∈ tfs := .head _
theorem ti1 : ("forms" : Str) ∈ tfs := .tail _ (.head _)
theorem ti2 : ("places" : Str) ∈ tfs := .tail _ (.tail _ (.head _))
/-! ### what the law draws -/
def cel (ns : List Int) (k : Int) : Int := if k < ns.length then ns.getD k.toNat 0 else 0
def isR (c : Int) : Bool := decide (1237940039285380274899124224 ≤ c ∧ c % 2 = 1)
def mxx (c k : Int) : Int := (c + 7919 * k + 1) * 48271 % 2147483647
def mxy (x : Int) : Int := x * (x / 1009 + 69621) % 2147483647
def mxz (k y : Int) : Int := y * (y / 2003 + 39373 + k) % 2147483629
def mxd (c k : Int) : Int := if isR c = true ∧ 0 < c / 2 ^ (1 + 31 * k).toNat then c / 2 ^ (1 + 31 * k).toNat % 2147483648 else mxz k (mxy (mxx c k))
theorem mxd_bd (c k : Int) : 0 ≤ mxd c k ∧ mxd c k < 2147483648 := by
  unfold mxd
  split
  · exact ⟨Int.emod_nonneg _ (by decide), Int.emod_lt_of_pos _ (by decide)⟩
  · unfold mxz
    have h1 := Int.emod_nonneg (mxy (mxx c k) * (mxy (mxx c k) / 2003 + 39373 + k)) (show (2147483629 : Int) ≠ 0 by decide)
    have h2 := Int.emod_lt_of_pos (mxy (mxx c k) * (mxy (mxx c k) / 2003 + 39373 + k)) (show (0 : Int) < 2147483629 by decide)
    exact ⟨h1, by omega⟩
def lgd (c k w : Int) : Int := if isR c = true then (mxd c (200 + 2 * k) + mxd c (201 + 2 * k) * 2147483648) % M w else mxd c k / 4 * 48271 * 69621 % M w
def nbl (c k w g : Int) : List Int := [mxd c k / 8 % 301 % M w, M w - 1 - mxd c k / 8 % 3, g, 0]
def nbd (c k w : Int) : Int := (nbl c k w (lgd c k w)).getD (mxd c k % 4).toNat 0
theorem M_big {w : Int} (h : W w) : 256 ≤ M w := by rcases h with rfl | rfl | rfl <;> decide
theorem nbd_bd {c k w : Int} (h : W w) : 0 ≤ nbd c k w ∧ nbd c k w < M w := by
  have hm := M_big h
  have hl : 0 ≤ lgd c k w ∧ lgd c k w < M w := by
    unfold lgd
    split <;> exact ⟨Int.emod_nonneg _ (by omega), Int.emod_lt_of_pos _ (by omega)⟩
  have hr : mxd c k % 4 = 0 ∨ mxd c k % 4 = 1 ∨ mxd c k % 4 = 2 ∨ mxd c k % 4 = 3 := by omega
  unfold nbd nbl
  rcases hr with e | e | e | e <;> rw [e]
  · exact ⟨Int.emod_nonneg _ (by omega), Int.emod_lt_of_pos _ (by omega)⟩
  · show 0 ≤ M w - 1 - mxd c k / 8 % 3 ∧ M w - 1 - mxd c k / 8 % 3 < M w
    omega
  · exact hl
  · show (0 : Int) ≤ 0 ∧ 0 < M w
    omega
theorem atI_strs {ss : List Str} {k : Int} (h0 : 0 ≤ k) (h1 : k < (ss.length : Int)) : atI (ss.map V.str) k = some (.str (ss.getD k.toNat "")) := by
  obtain ⟨j, rfl⟩ := Int.eq_ofNat_of_zero_le h0
  have hj : j < ss.length := by omega
  exact atI_nat (by simp [hj])
def nm3 (n : Int) : Str := ([("box" : Str), "got", "bits"] : List Str).getD (n / 5 % 3).toNat ""
def wd6 (n : Int) : Str := ([("add" : Str), "sub", "and", "or", "xor", "sub"] : List Str).getD (n / 960 % 6).toNat ""
theorem wd6_w2 (n : Int) : W2 (wd6 n) := by
  have hr : n / 960 % 6 = 0 ∨ n / 960 % 6 = 1 ∨ n / 960 % 6 = 2 ∨ n / 960 % 6 = 3 ∨ n / 960 % 6 = 4 ∨ n / 960 % 6 = 5 := by omega
  unfold wd6
  rcases hr with e | e | e | e | e | e <;> rw [e]
  · exact .inl rfl
  · exact .inr (.inl rfl)
  · exact .inr (.inr (.inl rfl))
  · exact .inr (.inr (.inr (.inl rfl)))
  · exact .inr (.inr (.inr (.inr rfl)))
  · exact .inr (.inl rfl)
theorem w2_a {x : Str} (h : x = "add" ∨ x = "sub" ∨ x = "or" ∨ x = "xor") : W2 x := by
  rcases h with rfl | rfl | rfl | rfl
  · exact .inl rfl
  · exact .inr (.inl rfl)
  · exact .inr (.inr (.inr (.inl rfl)))
  · exact .inr (.inr (.inr (.inr rfl)))
theorem w2_b {x : Str} (h : x = "add" ∨ x = "and" ∨ x = "or" ∨ x = "xor") : W2 x := by
  rcases h with rfl | rfl | rfl | rfl
  · exact .inl rfl
  · exact .inr (.inr (.inl rfl))
  · exact .inr (.inr (.inr (.inl rfl)))
  · exact .inr (.inr (.inr (.inr rfl)))
/-- the term of a cell -/
def Is (m : Int) (fs : List Fm) (c w i : Int) : Prop :=
  if mxd c 1 % 5 = 0 then At fs i (nu (nbd c 2 w % m)) else ∃ j, At fs j (un (nm3 (mxd c 1)) (mxd c 1 / 15 % 8)) ∧
    if mxd c 1 % 5 = 1 then ∃ z, At fs z (nu (nbd c 3 w % m)) ∧ At fs i (mk2 m fs "add" j z)
    else if mxd c 1 % 5 = 2 then i = j else ∃ o, At fs o (un "box" (mxd c 1 / 120 % 8)) ∧ At fs i (mk2 m fs (wd6 (mxd c 1)) j o)
theorem Is.uniq {m : Int} {fs fs' : List Fm} {c w i i' : Int} (wf : Wf m fs) (e : Ex fs fs') (u : Uq fs') (h : Is m fs c w i) (h' : Is m fs' c w i') : i' = i := by
  unfold Is at h h'
  split at h
  · next z =>
    rw [if_pos z] at h'
    exact u _ _ _ h' (h.ex e)
  next z =>
  rw [if_neg z] at h'
  obtain ⟨j, hj, h⟩ := h
  obtain ⟨j', hj', h'⟩ := h'
  have ej : j = j' := u _ _ _ (hj.ex e) hj'
  subst ej
  split at h
  · next z1 =>
    rw [if_pos z1] at h'
    obtain ⟨y, hy, h⟩ := h
    obtain ⟨y', hy', h'⟩ := h'
    have ey : y = y' := u _ _ _ (hy.ex e) hy'
    subst ey
    rw [mk2_ex wf e hj.1 hy.1] at h'
    exact u _ _ _ h' (h.ex e)
  next z1 =>
  rw [if_neg z1] at h'
  split at h
  · next z2 =>
    rw [if_pos z2] at h'
    rw [h, h']
  next z2 =>
  rw [if_neg z2] at h'
  obtain ⟨y, hy, h⟩ := h
  obtain ⟨y', hy', h'⟩ := h'
  have ey : y = y' := u _ _ _ (hy.ex e) hy'
  subst ey
  rw [mk2_ex wf e hj.1 hy.1] at h'
  exact u _ _ _ h' (h.ex e)
theorem Put.is {fs fs' : List Fm} {f g : Fm} {i j : Int} (p : Put fs f i fs') (u : Uq fs') (h : At fs j g) (e : f = g) : j = i := u _ _ _ (h.ex p.ex) (e ▸ p.at_)
/-! ### the law's own promises -/
def sp_celx (K : PySem.W.Frag) : Sp := spN [.r, .i] fun (a : Addr) (k : Int) (H : Hp) (Q : VK) => ∃ ns : List Int, SqL K H a (ns.map V.int) ∧ 0 ≤ k ∧ Q (.int (cel ns k)) H
theorem rd_celx {K : PySem.W.Frag} {a : Addr} {k : Int} {H : Hp} {Q : VK} {E : XK} : sp_celx K [.ref a, .int k] H Q E = ∃ ns : List Int, SqL K H a (ns.map V.int) ∧ 0 ≤ k ∧ Q (.int (cel ns k)) H := rfl
def sp_isrow : Sp := spN [.i] fun (c : Int) (H : Hp) (Q : VK) => Q (.bl (isR c)) H
theorem rd_isrow {c : Int} {H : Hp} {Q : VK} {E : XK} : sp_isrow [.int c] H Q E = Q (.bl (isR c)) H := rfl
def sp_mixd : Sp := spN [.i, .i] fun (c : Int) (k : Int) (H : Hp) (Q : VK) => 0 ≤ k ∧ Q (.int (mxd c k)) H
theorem rd_mixd {c k : Int} {H : Hp} {Q : VK} {E : XK} : sp_mixd [.int c, .int k] H Q E = (0 ≤ k ∧ Q (.int (mxd c k)) H) := rfl
def sp_nbd : Sp := spN [.i, .i, .i] fun (c : Int) (k : Int) (w : Int) (H : Hp) (Q : VK) => W w ∧ 0 ≤ k ∧ ∀ H', Same H H' → Q (.int (nbd c k w)) H'
theorem rd_nbd {c k w : Int} {H : Hp} {Q : VK} {E : XK} : sp_nbd [.int c, .int k, .int w] H Q E = (W w ∧ 0 ≤ k ∧ ∀ H', Same H H' → Q (.int (nbd c k w)) H') := rfl
def lend (n : Nat) (C t : Addr) (w : Int) (l d : Addr) (fs : List Fm) (H : Hp) (R : List Fm → Hp → Prop) : Prop := ∀ (H' : Hp) (fs' : List Fm), Ex fs fs' → fs'.length ≤ fs.length + n → Tb H' C t w l d fs' → Chg l d H H' → R fs' H'
def sp_lterm (C : Addr) : Sp := spN [.r, .i, .i] fun (t : Addr) (c : Int) (w : Int) (H : Hp) (Q : VK) => ∃ (l d : Addr) (fs : List Fm), Tb H C t w l d fs ∧ fs.length < 3900 ∧ ∀ i : Int, lend 5 C t w l d fs H fun fs' H' => Is (M w) fs' c w i → Pl fs' i → Q (.int i) H'
theorem rd_lterm {C t : Addr} {c w : Int} {H : Hp} {Q : VK} {E : XK} : sp_lterm C [.ref t, .int c, .int w] H Q E = ∃ (l d : Addr) (fs : List Fm), Tb H C t w l d fs ∧ fs.length < 3900 ∧ ∀ i : Int, lend 5 C t w l d fs H fun fs' H' => Is (M w) fs' c w i → Pl fs' i → Q (.int i) H' := rfl
def sp_lnd (C : Addr) : Sp := spN [.r, .i] fun (t : Addr) (x : Int) (H : Hp) (Q : VK) => ∃ (w : Int) (l d : Addr) (fs : List Fm), Tb H C t w l d fs ∧ fs.length < 3900 ∧ Pl fs x ∧ lend 20 C t w l d fs H fun _ H' => Q (.bl true) H'
theorem rd_lnd {C t : Addr} {x : Int} {H : Hp} {Q : VK} {E : XK} : sp_lnd C [.ref t, .int x] H Q E = ∃ (w : Int) (l d : Addr) (fs : List Fm), Tb H C t w l d fs ∧ fs.length < 3900 ∧ Pl fs x ∧ lend 20 C t w l d fs H fun _ H' => Q (.bl true) H' := rfl
def sp_lns (C : Addr) : Sp := spN [.r, .i, .i, .i, .i] fun (t : Addr) (x : Int) (a : Int) (b : Int) (w : Int) (H : Hp) (Q : VK) => ∃ (l d : Addr) (fs : List Fm), Tb H C t w l d fs ∧ fs.length < 3900 ∧ Pl fs x ∧ 0 ≤ a ∧ a < M w ∧ 0 ≤ b ∧ b < M w ∧ lend 40 C t w l d fs H fun _ H' => Q (.bl true) H'
theorem rd_lns {C t : Addr} {x a b w : Int} {H : Hp} {Q : VK} {E : XK} : sp_lns C [.ref t, .int x, .int a, .int b, .int w] H Q E = ∃ (l d : Addr) (fs : List Fm), Tb H C t w l d fs ∧ fs.length < 3900 ∧ Pl fs x ∧ 0 ≤ a ∧ a < M w ∧ 0 ≤ b ∧ b < M w ∧ lend 40 C t w l d fs H fun _ H' => Q (.bl true) H' := rfl
theorem Tb.ne {H : Hp} {C t l d p : Addr} {w : Int} {fs : List Fm} (T : Tb H C t w l d fs) (h : H p = none) : p ≠ l ∧ p ≠ d := by
  obtain ⟨as, el, _⟩ := T.li
  obtain ⟨kvs, ed, _⟩ := T.di
  exact ⟨(ne_of_none el h).symm, (ne_of_none ed h).symm⟩
theorem same_chg {H1 H2 H3 : Hp} {l d : Addr} (s : Same H1 H2) (hl : H1 l = none) (hd : H1 d = none) (c : Chg l d H2 H3) : Same H1 H3 := fun b o e => c b o (ne_of_none e hl) (ne_of_none e hd) (s b o e)
theorem eqL {K : PySem.W.Frag} {H : Hp} {p q : Addr} {ns : List Int} {Q : VK} (hp : H p = some (.lst (ns.map V.int))) (hq : H q = some (.lst (ns.map V.int))) (k : Q (.bl true) H) :
    ∃ d e, DatV K H (.ref p) d ∧ DatV K H (.ref q) e ∧ SeqAt.shaped d = true ∧ SeqAt.shaped e = true ∧ SeqAt.noMix d e = true ∧ Q (.bl (Spec.same d e)) H :=
  ⟨.list (ns.map PyData.int), .list (ns.map PyData.int), .lst (SqL.of hp) (datInts _), .lst (SqL.of hq) (datInts _), shL_ints _, shL_ints _, mixL_ints _ _, by rw [Spec.same_self]; exact k⟩
local macro_rules | `(tactic| walk_at "vz") => `(tactic| try simp only [↓Rd.cxK, ↓Rd.rse, ↓Rd.meC, ↓Rd.meQ, ↓Rd.mkC, ↓Rd.sfA, ↓Rd.sfQ, ↓Rd.fdE, ↓Rd.fdR, ↓Rd.cxKn, ↓Rd.glst, ↓Rd.lstA, ↓Rd.tupA, ↓Rd.catA, ↓Rd.repA, ↓Rd.listA, ↓Rd.appA, ↓Rd.setA, ↓Rd.v0, ↓Rd.v1, ↓Rd.v2, ↓Rd.v3, ↓Rd.v4, ↓Rd.v5, ↓Rd.v6, ↓Rd.v7, ↓Rd.v8, ↓Rd.v9, ↓Rd.v10, ↓Rd.v11, ↓Rd.v12, ↓Rd.v13, ↓Rd.v14, ↓Rd.v15, ↓Rd.v16, ↓Rd.v17, ↓Rd.v18, ↓Rd.v19, ↓Rd.v20, ↓Rd.v21, ↓Rd.v22, ↓Rd.v23, ↓Rd.g0, ↓Rd.g1, ↓Rd.g2, ↓Rd.g3, ↓Rd.g4, ↓Rd.g5, ↓Rd.g6, ↓Rd.g7, ↓Rd.g8, ↓Rd.g9, ↓Rd.g10, ↓Rd.g11, ↓Rd.g12, ↓Rd.g13, ↓Rd.g14, ↓Rd.g15, ↓Rd.g16, ↓Rd.g17, ↓Rd.g18, ↓Rd.g19, ↓Rd.g20, ↓Rd.g21, ↓Rd.g22, ↓Rd.g23, ↓Rd.isB_bl, ↓Rd.seq, ↓Rd.nxt, ↓Rd.brk, ↓Rd.cnt, ↓Rd.drp, ↓Rd.ret, ↓Rd.retN, ↓Rd.ifS, ↓Rd.asg, ↓Rd.cst, ↓Rd.op, ↓Rd.I0, ↓Rd.I1, ↓Rd.eqI, ↓Rd.neI, ↓Rd.eqS, ↓Rd.neS, ↓Rd.eqB, ↓Rd.neB, ↓Rd.un, ↓Rd.U, ↓Rd.tst, ↓Rd.tb, ↓Rd.and, ↓Rd.or, ↓Rd.not, ↓Rd.andV, ↓Rd.orV, ↓Rd.notV, ↓Rd.tif, ↓Rd.tifC, ↓Rd.chn, ↓Rd.nil, ↓Rd.cons, ↓Rd.cb, ↓Rd.call, ↓Rd.lst, ↓Rd.tup, ↓Rd.tabE, ↓Rd.tabI, ↓Rd.tabS, ↓Rd.ixL, ↓Rd.ixT, ↓Rd.cat, ↓Rd.frr, ↓Rd.cmp, ↓Rd.itl, ↓Rd.itlR, ↓Rd.itt, ↓Rd.ittR, ↓Rd.rg, ↓Rd.rgI, ↓Rd.lenL, ↓Rd.lenS, ↓Rd.listOf, ↓Rd.bm, ↓Rd.app, ↓Rd.inSeq, ↓Rd.eqD, ↓Rd.neD, ↓Rd.sub, ↓Rd.setL, ↓Rd.gtup, ↓Rd.gnil, ↓Rd.gcons, ↓Rd.all, not_true_eq_false, not_false_eq_true, Int.one_mul, CDiv, CPow, CMul, Int.natAbs_one, Rd.nab10, Rd.nab2, Nat.reduceLT, true_or, or_true, Int.reduceLT, Int.reduceLE, true_and, and_true, and_self, Int.reduceToNat, Int.reduceMul, Int.reduceSub, Int.reduceAdd, Int.reduceNeg, Int.reducePow, List.length_cons, List.length_nil, Nat.reduceAdd, Nat.zero_add, sizeLine_eq, Nat.reduceLeDiff, Nat.reducePow, decide_eq_true_eq, Bool.not_eq_eq_eq_not, Bool.not_true, Bool.not_false, decide_eq_false_iff_not, eq_self, ↓reduceIte, reduceCtorEq, Bool.false_eq_true, ↓Rd.cxP, ↓Rd.cxW, ↓Rd.cxM, ↓Rd.cxB, ↓Rd.cxPn, ↓Rd.cxWn, ↓Rd.cxMn, ↓Rd.cxBn, ↓Rd.meD, ↓Rd.meDQ, ↓Rd.inTD, ↓Rd.dgT, ↓Rd.dgTR, ↓Rd.dpT, ↓Rd.dpTR, ↓Rd.dnw, ↓Rd.min2, ↓Rd.max2, ↓Rd.lns, ↓Rd.lnsR, ↓rd_fit, ↓rd_unf2, ↓rd_unf, ↓rd_reckoned, ↓rd_tinit, ↓rd_celx, ↓rd_isrow, ↓rd_mixd, ↓rd_nbd, ↓rd_lterm, ↓rd_lnd, ↓rd_lns])
section
variable {P : Program} {w : World} {K : PySem.W.Frag} {mg : Str → Option Value} {base : Heap} {f dS : Addr} {fd : FuncData}
theorem ok_fit (F : Fun K "fit" "fit" s_fit f fd) (M : mg "SPANS" = some (.ref dS)) (tb_SPANS : TabK P w K dS spans) : FnOk P w K mg base CX0 1 f fd ["width", "number"] sp_fit := by
  refine F.ok sc_fit (fun vs H Q E h => spN_len h) (fun cdv A outer s H vs Q E hr h => ?_)
  obtain ⟨w', _, rfl, h'0⟩ := spN_i h
  obtain ⟨n, _, rfl, h'1⟩ := spN_i h'0
  obtain ⟨rfl, h'n⟩ := spN_nil h'1
  clear h h'0 h'1
  obtain ⟨hw, k⟩ := h'n
  · skip
    refine ⟨_, (pss_one (ps_ret (pe_op op_mod (pv 1) (pe_tab M rfl tb_SPANS (pv 0))))), ?_⟩
    have hp := pw hw
    rw [st_fit]
    walk_at "vz"
    exact ⟨_, span_at hw, by walk_at "vz"; exact ⟨by omega, k⟩⟩
end
section
variable {P : Program} {w : World} {K : PySem.W.Frag} {mg : Str → Option Value} {base : Heap} {f : Addr} {fd : FuncData}
theorem ok_unfitted_of_two (F : Fun K "unfitted_of_two" "unfitted_of_two" s_unfitted_of_two f fd) : FnOk P w K mg base CX0 1 f fd ["word", "one", "other"] sp_unf2 := by
  refine F.ok sc_unfitted_of_two (fun vs H Q E h => spN_len h) (fun cdv A outer s H vs Q E hr h => ?_)
  obtain ⟨x, _, rfl, h'0⟩ := spN_s h
  obtain ⟨a, _, rfl, h'1⟩ := spN_i h'0
  obtain ⟨b, _, rfl, h'2⟩ := spN_i h'1
  obtain ⟨rfl, h'n⟩ := spN_nil h'2
  clear h h'0 h'1 h'2
  have k := h'n
  · skip
    refine ⟨_, (pss_cons (ps_if (pt_cmpR op_eq (pv 0) pe_str (nomk _)) (pss_one (ps_ret (pe_op op_add (pv 1) (pv 2)))) pss_nil)
      (pss_cons (ps_if (pt_cmpR op_eq (pv 0) pe_str (nomk _)) (pss_one (ps_ret (pe_op op_sub (pv 1) (pv 2)))) pss_nil)
      (pss_cons (ps_if (pt_cmpR op_eq (pv 0) pe_str (nomk _)) (pss_one (ps_ret (pe_op op_and (pv 1) (pv 2)))) pss_nil)
      (pss_cons (ps_if (pt_cmpR op_eq (pv 0) pe_str (nomk _)) (pss_one (ps_ret (pe_op op_or (pv 1) (pv 2)))) pss_nil)
      (pss_one (ps_ret (pe_op op_xor (pv 1) (pv 2)))))))), ?_⟩
    rw [st_unfitted_of_two]
    walk_at "vz"
    have k : Q (.int (unf2 x a b)) H := k
    unfold unf2 at k
    refine ite2 (fun h => ?_) (fun h => ?_)
    · rw [if_pos h] at k; exact k
    rw [if_neg h] at k
    refine ite2 (fun h => ?_) (fun h => ?_)
    · rw [if_pos h] at k; exact k
    rw [if_neg h] at k
    refine ite2 (fun h => ?_) (fun h => ?_)
    · rw [if_pos h] at k; exact k
    rw [if_neg h] at k
    refine ite2 (fun h => ?_) (fun h => ?_)
    · rw [if_pos h] at k; exact k
    rw [if_neg h] at k
    exact k
theorem ok_unfitted (F : Fun K "unfitted" "unfitted" s_unfitted f fd) (c_unfitted_of_two : Cal P w K mg base "unfitted_of_two" 1 ["word", "one", "other"] sp_unf2) : FnOk P w K mg base CX0 2 f fd ["word", "one", "other"] sp_unf := by
  refine F.ok sc_unfitted (fun vs H Q E h => spN_len h) (fun cdv A outer s H vs Q E hr h => ?_)
  obtain ⟨x, _, rfl, h'0⟩ := spN_s h
  obtain ⟨a, _, rfl, h'1⟩ := spN_i h'0
  obtain ⟨b, _, rfl, h'2⟩ := spN_i h'1
  obtain ⟨rfl, h'n⟩ := spN_nil h'2
  clear h h'0 h'1 h'2
  have k := h'n
  · skip
    refine ⟨_, (pss_cons (ps_if (pt_cmpR op_eq (pv 0) pe_str (nomk _)) (pss_one (ps_ret (pe_op op_sub (pe_un un_neg pe_int) (pv 1)))) pss_nil)
      (pss_cons (ps_if (pt_cmpR op_eq (pv 0) pe_str (nomk _)) (pss_one (ps_ret (pe_op op_add (pv 1) (pv 1)))) pss_nil)
      (pss_cons (ps_if (pt_cmpR op_eq (pv 0) pe_str (nomk _)) (pss_one (ps_ret (pe_op op_fdiv (pv 1) pe_int))) pss_nil)
      (pss_one (ps_ret (pe_callC c_unfitted_of_two (hr.mono (by decide)) (pa_cons (pv 0) (pa_cons (pv 1) (pa_cons (pv 2) pa_nil))))))))), ?_⟩
    rw [st_unfitted]
    walk_at "vz"
    have k : Q (.int (unf x a b)) H := k
    unfold unf at k
    refine ite2 (fun h => ?_) (fun h => ?_)
    · rw [if_pos h] at k; exact k
    rw [if_neg h] at k
    refine ite2 (fun h => ?_) (fun h => ?_)
    · rw [if_pos h] at k; exact k
    rw [if_neg h] at k
    refine ite2 (fun h => ?_) (fun h => ?_)
    · rw [if_pos h] at k; exact k
    rw [if_neg h] at k
    exact k
theorem ok_reckoned (F : Fun K "reckoned" "reckoned" s_reckoned f fd) (c_fit : Cal P w K mg base "fit" 1 ["width", "number"] sp_fit) (c_unfitted : Cal P w K mg base "unfitted" 2 ["word", "one", "other"] sp_unf) : FnOk P w K mg base CX0 3 f fd ["width", "word", "one", "other"] sp_reckoned := by
  refine F.ok sc_reckoned (fun vs H Q E h => spN_len h) (fun cdv A outer s H vs Q E hr h => ?_)
  obtain ⟨w', _, rfl, h'0⟩ := spN_i h
  obtain ⟨x, _, rfl, h'1⟩ := spN_s h'0
  obtain ⟨a, _, rfl, h'2⟩ := spN_i h'1
  obtain ⟨b, _, rfl, h'3⟩ := spN_i h'2
  obtain ⟨rfl, h'n⟩ := spN_nil h'3
  clear h h'0 h'1 h'2 h'3
  obtain ⟨hw, k⟩ := h'n
  · skip
    refine ⟨_, (pss_one (ps_ret (pe_callC c_fit (hr.mono (by decide)) (pa_cons (pv 0) (pa_cons (pe_callC c_unfitted (hr.mono (by decide)) (pa_cons (pv 1) (pa_cons (pv 2) (pa_cons (pv 3) pa_nil)))) pa_nil))))), ?_⟩
    rw [st_reckoned]
    walk_at "vz"
    exact ⟨hw, k⟩
end
section
variable {P : Program} {w : World} {K : PySem.W.Frag} {mg : Str → Option Value} {base : Heap} {f C : Addr} {fd : FuncData}
theorem ok_Terms___init__ (F : Fun K "__init__" "Terms.__init__" s_Terms___init__ f fd) (hc : Cls K C) (na : ∀ f ∈ tfs, NoAttr K C f) : FnOk P w K mg base CX0 1 f fd ["self", "width"] (sp_tinit C) := by
  refine F.ok sc_Terms___init__ (fun vs H Q E h => spN_len h) (fun cdv A outer s H vs Q E hr h => ?_)
  obtain ⟨t, _, rfl, h'0⟩ := spN_r h
  obtain ⟨w', _, rfl, h'1⟩ := spN_i h'0
  obtain ⟨rfl, h'n⟩ := spN_nil h'1
  clear h h'0 h'1
  obtain ⟨hw, dx, hg, k⟩ := h'n
  · skip
    refine ⟨_, (pss_cons (ps_fldA (pv 0) (pv 1) rfl)
      (pss_cons (ps_fldA (pv 0) (pe_lstA pa_nil) rfl)
      (pss_one (ps_fldA (pv 0) pe_dnewA rfl)))), ?_⟩
    rw [st_Terms___init__]
    walk_at "vz"
    refine ⟨C, dx, [], hg, hc, na _ ti0, by decide, fun H1 w1 => ?_⟩
    replace w1 : Wrt H t (.ins C dx [("width", .int w')]) H1 := w1
    walk_at "vz"
    refine fun l H2 n2 => ⟨C, dx, _, n2.same _ _ w1.at', hc, na _ ti1, by show 1 < 1000; decide, fun H3 w3 => ?_⟩
    replace w3 : Wrt H2 t (.ins C dx [("width", .int w'), ("forms", .ref l)]) H3 := w3
    walk_at "vz"
    refine fun d H4 n4 => ⟨C, dx, _, n4.same _ _ w3.at', hc, na _ ti2, by show 2 < 1000; decide, fun H5 w5 => ?_⟩
    replace w5 : Wrt H4 t (.ins C dx (tF w' l d)) H5 := w5
    have nl : l ≠ t := fun z => by have := n2.nw; rw [z, w1.at'] at this; cases this
    have nd : d ≠ t := fun z => by have := n4.nw; rw [z, w3.at'] at this; cases this
    have el : H5 l = some (.lst []) := by rw [w5.els l nl]; exact n4.same _ _ (by rw [w3.els l nl]; exact n2.at')
    have ed : H5 d = some (.dT []) := by rw [w5.els d nd]; exact n4.at'
    refine k H5 l d (fun b o hb e => ?_) ⟨hw, ⟨dx, w5.at'⟩, ⟨[], el, rfl, by simp⟩, ⟨[], ed, Nat.le_refl _, fun i f h => ?_, fun f v h => nomatch h⟩, fun i h => ?_, fun i j f h => ?_⟩ ?_ ?_
    · rw [w5.els b hb]
      refine n4.same _ _ ?_
      rw [w3.els b hb]
      refine n2.same _ _ ?_
      rw [w1.els b hb]
      exact e
    · obtain ⟨⟨a, b⟩, _⟩ := h; simp at b; omega
    · obtain ⟨a, b⟩ := h; simp at b; omega
    · obtain ⟨⟨a, b⟩, _⟩ := h; simp at b; omega
    · rw [← w1.els l nl]; exact n2.nw
    · rw [← w1.els d nd]; exact n2.same.free (by rw [← w3.els d nd]; exact n4.nw)
theorem ok_Terms_term_of {tk : Tok} (F : Fun K "term_of" "Terms.term_of" s_Terms_term_of f fd) (B : Bls mg) (M_MOST_TERMS : mg "MOST_TERMS" = some (.int 4096 tk)) (hc : Cls K C) (na : ∀ f ∈ tfs, NoAttr K C f) : FnOk P w K mg base CX0 1 f fd ["self", "form"] (sp_term C) := by
  refine F.ok sc_Terms_term_of (fun vs H Q E h => spN_len h) (fun cdv A outer s H vs Q E hr h => ?_)
  obtain ⟨t, _, rfl, h'0⟩ := spN_r h
  obtain ⟨b, _, rfl, h'1⟩ := spN_r h'0
  obtain ⟨rfl, h'n⟩ := spN_nil h'1
  clear h h'0 h'1
  obtain ⟨w', l, d, fs, g, T, z, eb, sh, k⟩ := h'n
  · skip
    have hU := hr.units
    refine ⟨_, (pss_cons (ps_if (pt_cmpR (op_inTD hU) (pv 1) (pe_fld (pv 0) rfl) (nomk _)) (pss_one (ps_ret (pe_dgetT hU (pe_fld (pv 0) rfl) (pv 1)))) pss_nil)
      (pss_cons (ps_set (i := 2) sc_Terms_term_of.nd rfl (by first | exact Or.inl rfl | exact Or.inr rfl) (pe_callB call_lenR rfl B.len bb_len (pa_cons (pe_fld (pv 0) rfl) pa_nil)))
      (pss_cons (ps_if (pt_cmpR op_ge (pv 2) (pe_glob (v := .int 4096) rfl M_MOST_TERMS ⟨_, rfl⟩) (nomk _)) (pss_one ps_raise) pss_nil)
      (pss_cons (ps_expr (pe_bm PySem.F.plainAttrs_list PySem.F.slot_list_append PySem.F.type_list_append mt_appendA (pe_fld (pv 0) rfl) (pa_cons (pv 1) pa_nil)))
      (pss_cons (ps_dputT hU (pe_fld (pv 0) rfl) (pv 1) (pv 2))
      (pss_one (ps_ret (pv 2)))))))), ?_⟩
    rw [st_Terms_term_of]
    walk_at "vz"
    obtain ⟨kvs, ed, kl, kv, kn⟩ := T.di
    refine fld hc (na _ ti2) T rfl ?_
    walk_at "vz"
    refine ⟨kvs, g, ed, eb, ?_⟩
    cases hv : valV kvs g with
    | some v =>
      obtain ⟨i, ai⟩ := kn g v hv
      have hi := kv i g ai
      rw [hv] at hi
      cases hi
      refine ite2 (fun _ => ?_) (fun h => absurd rfl h)
      refine fld hc (na _ ti2) T rfl ?_
      walk_at "vz"
      exact ⟨kvs, g, _, ed, eb, hv, k i H fs ⟨ai, Ex.refl _, by omega⟩ T (fun _ _ _ _ e => e)⟩
    | none =>
      refine ite2 (fun h => nomatch h) (fun _ => ?_)
      obtain ⟨as, el, la, ha⟩ := T.li
      refine fld hc (na _ ti1) T rfl ?_
      walk_at "vz"
      refine ⟨_, .inl (SqL.of el), ?_⟩
      walk_at "vz"
      refine iteN (by rw [List.length_map]; omega) ?_
      refine fld hc (na _ ti1) T rfl ?_
      walk_at "vz"
      refine ⟨.inl ⟨rfl, _, SqL.of el⟩, _, el, by rw [List.length_map]; omega, fun H1 w1 => ?_⟩
      have nld : d ≠ l := ne_of ed el (fun z => nomatch z)
      obtain ⟨dx, et⟩ := T.ob
      have et1 : H1 t = some (.ins C dx (tF w' l d)) := by rw [w1.els t (ne_of et el (fun z => nomatch z))]; exact et
      refine ⟨C, dx, _, _, et1, hc, na _ ti2, rfl, ?_⟩
      walk_at "vz"
      refine ⟨kvs, g, by rw [w1.els d nld]; exact ed, by rw [w1.els b (ne_of eb el (fun z => nomatch z))]; exact eb, by omega, fun H2 w2 => ?_⟩
      rw [List.length_map, la] at w2 ⊢
      obtain ⟨T2, c2, p2⟩ := T.put eb sh el la ha ed kl kv kn hv w1 w2
      exact k _ H2 _ p2 T2 c2
theorem ok_Terms_number (F : Fun K "number" "Terms.number" s_Terms_number f fd) (hc : Cls K C) (na : ∀ f ∈ tfs, NoAttr K C f) (c_fit : Cal P w K mg base "fit" 1 ["width", "number"] sp_fit) (mT : MCal P w K mg base C "term_of" 1 (sp_term C)) : FnOk P w K mg base CX0 2 f fd ["self", "whole"] (sp_num C) := by
  refine F.ok sc_Terms_number (fun vs H Q E h => spN_len h) (fun cdv A outer s H vs Q E hr h => ?_)
  obtain ⟨t, _, rfl, h'0⟩ := spN_r h
  obtain ⟨n, _, rfl, h'1⟩ := spN_i h'0
  obtain ⟨rfl, h'n⟩ := spN_nil h'1
  clear h h'0 h'1
  obtain ⟨w', l, d, fs, T, z, k⟩ := h'n
  · skip
    refine ⟨_, (pss_one (ps_ret (pe_methC (m := "term_of") (k := 1) (pv 0) (hr.mono (by decide)) (pa_cons (pe_tupA (pa_cons pe_str (pa_cons (pe_callC c_fit (hr.mono (by decide)) (pa_cons (pe_fld (pv 0) rfl) (pa_cons (pv 1) pa_nil))) pa_nil))) pa_nil)))), ?_⟩
    rw [st_Terms_number]
    walk_at "vz"
    refine cut mT T ?_
    refine fld hc (na _ ti0) T rfl ?_
    walk_at "vz"
    refine ⟨T.hw, fun b H1 n1 => ⟨w', l, d, fs, nu (n % M w'), T.same n1.same, z, n1.at', nu_sh (M_pos T.hw) n, fun i H' fs' p T' c => k i H' fs' p T' ((Chg.of n1.same).trans c)⟩⟩
theorem ok_Terms_unknown (F : Fun K "unknown" "Terms.unknown" s_Terms_unknown f fd) (mT : MCal P w K mg base C "term_of" 1 (sp_term C)) : FnOk P w K mg base CX0 2 f fd ["self", "name", "which"] (sp_unk C) := by
  refine F.ok sc_Terms_unknown (fun vs H Q E h => spN_len h) (fun cdv A outer s H vs Q E hr h => ?_)
  obtain ⟨t, _, rfl, h'0⟩ := spN_r h
  obtain ⟨y, _, rfl, h'1⟩ := spN_s h'0
  obtain ⟨n, _, rfl, h'2⟩ := spN_i h'1
  obtain ⟨rfl, h'n⟩ := spN_nil h'2
  clear h h'0 h'1 h'2
  obtain ⟨w', l, d, fs, T, z, k⟩ := h'n
  · skip
    refine ⟨_, (pss_one (ps_ret (pe_methC (m := "term_of") (k := 1) (pv 0) (hr.mono (by decide)) (pa_cons (pe_tupA (pa_cons pe_str (pa_cons (pv 1) (pa_cons (pv 2) pa_nil)))) pa_nil)))), ?_⟩
    rw [st_Terms_unknown]
    walk_at "vz"
    refine cut mT T ?_
    exact fun b H1 n1 => ⟨w', l, d, fs, un y n, T.same n1.same, z, n1.at', .unk, fun i H' fs' p T' c => k i H' fs' p T' ((Chg.of n1.same).trans c)⟩
theorem ok_Terms_is_known (F : Fun K "is_known" "Terms.is_known" s_Terms_is_known f fd) (hc : Cls K C) (na : ∀ f ∈ tfs, NoAttr K C f) : FnOk P w K mg base CX0 1 f fd ["self", "term"] (sp_known C) := by
  refine F.ok sc_Terms_is_known (fun vs H Q E h => spN_len h) (fun cdv A outer s H vs Q E hr h => ?_)
  obtain ⟨t, _, rfl, h'0⟩ := spN_r h
  obtain ⟨a, _, rfl, h'1⟩ := spN_i h'0
  obtain ⟨rfl, h'n⟩ := spN_nil h'1
  clear h h'0 h'1
  obtain ⟨w', l, d, fs, T, pa, k⟩ := h'n
  · skip
    refine ⟨_, (pss_one (ps_ret (pe_cmpR op_eq (pe_ix ix_tup (pe_ix ix_list (pe_fld (pv 0) rfl) (pv 1) (fun _ _ => rfl)) pe_int (fun _ _ => rfl)) pe_str (nomk _)))), ?_⟩
    rw [st_Terms_is_known]
    walk_at "vz"
    obtain ⟨xs, b, el, ea, eb⟩ := T.form pa
    refine fld hc (na _ ti1) T rfl ?_
    walk_at "vz"
    refine ⟨xs, _, SqL.of el, ea, ?_⟩
    walk_at "vz"
    refine ⟨_, _, SqT.of eb, (T.wf a pa).at0, ?_⟩
    walk_at "vz"
    exact k
theorem ok_Terms_known (F : Fun K "known" "Terms.known" s_Terms_known f fd) (hc : Cls K C) (na : ∀ f ∈ tfs, NoAttr K C f) : FnOk P w K mg base CX0 1 f fd ["self", "term"] (sp_val C) := by
  refine F.ok sc_Terms_known (fun vs H Q E h => spN_len h) (fun cdv A outer s H vs Q E hr h => ?_)
  obtain ⟨t, _, rfl, h'0⟩ := spN_r h
  obtain ⟨a, _, rfl, h'1⟩ := spN_i h'0
  obtain ⟨rfl, h'n⟩ := spN_nil h'1
  clear h h'0 h'1
  obtain ⟨w', l, d, fs, T, pa, hn, k⟩ := h'n
  · skip
    refine ⟨_, (pss_one (ps_ret (pe_ix ix_tup (pe_ix ix_list (pe_fld (pv 0) rfl) (pv 1) (fun _ _ => rfl)) pe_int (fun _ _ => rfl)))), ?_⟩
    rw [st_Terms_known]
    walk_at "vz"
    obtain ⟨xs, b, el, ea, eb⟩ := T.form pa
    obtain ⟨v, ev, _⟩ := T.wf.num pa hn
    rw [ev] at eb k
    refine fld hc (na _ ti1) T rfl ?_
    walk_at "vz"
    refine ⟨xs, _, SqL.of el, ea, ?_⟩
    walk_at "vz"
    exact ⟨_, _, SqT.of eb, rfl, k⟩
theorem ok_Terms_form_of_one (F : Fun K "form_of_one" "Terms.form_of_one" s_Terms_form_of_one f fd) (hc : Cls K C) (na : ∀ f ∈ tfs, NoAttr K C f) (mK : MCal P w K mg base C "is_known" 1 (sp_known C))
    (c_reckoned : Cal P w K mg base "reckoned" 3 ["width", "word", "one", "other"] sp_reckoned) : FnOk P w K mg base CX0 4 f fd ["self", "word", "one"] (sp_one C) := by
  refine F.ok sc_Terms_form_of_one (fun vs H Q E h => spN_len h) (fun cdv A outer s H vs Q E hr h => ?_)
  obtain ⟨t, _, rfl, h'0⟩ := spN_r h
  obtain ⟨x, _, rfl, h'1⟩ := spN_s h'0
  obtain ⟨a, _, rfl, h'2⟩ := spN_i h'1
  obtain ⟨rfl, h'n⟩ := spN_nil h'2
  clear h h'0 h'1 h'2
  obtain ⟨w', l, d, fs, T, pa, k⟩ := h'n
  · skip
    refine ⟨_, (pss_cons (ps_set (i := 3) sc_Terms_form_of_one.nd rfl (by first | exact Or.inl rfl | exact Or.inr rfl) (pe_ix ix_list (pe_fld (pv 0) rfl) (pv 2) (fun _ _ => rfl)))
      (pss_cons (ps_if (pt_val (pe_methC (m := "is_known") (k := 1) (pv 0) (hr.mono (by decide)) (pa_cons (pv 2) pa_nil))) (pss_one (ps_ret (pe_tupA (pa_cons pe_str (pa_cons (pe_callC c_reckoned (hr.mono (by decide)) (pa_cons (pe_fld (pv 0) rfl) (pa_cons (pv 1) (pa_cons (pe_ix ix_tup (pv 3) pe_int (fun _ _ => rfl)) (pa_cons pe_int pa_nil))))) pa_nil))))) pss_nil)
      (pss_cons (ps_if (PW.pt (pw_and (pt_cmpR op_eq (pv 1) pe_str (nomk _)) (pw_and1 (pt_cmpR op_eq (pe_ix ix_tup (pv 3) pe_int (fun _ _ => rfl)) pe_str (nomk _))))) (pss_one (ps_ret (pe_ix ix_list (pe_fld (pv 0) rfl) (pe_ix ix_tup (pv 3) pe_int (fun _ _ => rfl)) (fun _ _ => rfl)))) pss_nil)
      (pss_one (ps_ret (pe_tupA (pa_cons (pv 1) (pa_cons (pv 2) pa_nil)))))))), ?_⟩
    rw [st_Terms_form_of_one]
    walk_at "vz"
    obtain ⟨xs, b, el, ea, eb⟩ := T.form pa
    refine fld hc (na _ ti1) T rfl ?_
    walk_at "vz"
    refine ⟨xs, _, SqL.of el, ea, ?_⟩
    walk_at "vz"
    refine cut mK T ⟨w', l, d, fs, T, pa, ?_⟩
    walk_at "vz"
    refine ite2 (fun h => ?_) (fun h => ?_)
    · obtain ⟨v, ev, _⟩ := T.wf.num pa h
      rw [ev] at eb
      refine fld hc (na _ ti0) T rfl ?_
      walk_at "vz"
      refine ⟨_, _, SqT.of eb, rfl, ?_⟩
      walk_at "vz"
      exact ⟨T.hw, fun q H2 n2 => k q H2 n2.same (by unfold mk1; rw [if_pos h, ev]; exact n2.at')⟩
    · have e0 := (T.wf a pa).at0
      refine ite2 (fun hx => ?_) (fun hx => ?_)
      · refine ⟨_, _, SqT.of eb, e0, ?_⟩
        walk_at "vz"
        refine ite2 (fun h2 => ?_) (fun h2 => ?_)
        · obtain ⟨b', eb', pb', _⟩ := T.wf.nots pa h2
          rw [eb'] at eb
          refine fld hc (na _ ti1) T rfl ?_
          walk_at "vz"
          refine ⟨_, .int b', SqT.of eb, rfl, ?_⟩
          walk_at "vz"
          obtain ⟨ys, c, el2, ea2, ec⟩ := T.form pb'
          exact ⟨ys, _, SqL.of el2, ea2, k _ _ (Same.refl _) (by unfold mk1; rw [if_neg h, if_pos ⟨hx, h2⟩, eb']; exact ec)⟩
        · exact fun q H2 n2 => k q H2 n2.same (by unfold mk1; rw [if_neg h, if_neg fun z => h2 z.2]; exact n2.at')
      · exact fun q H2 n2 => k q H2 n2.same (by unfold mk1; rw [if_neg h, if_neg fun z => hx z.1]; exact n2.at')
theorem ok_no (F : Fun K "form_of_plus" "Terms.form_of_plus" s_Terms_form_of_plus f fd) : FnOk P w K mg base CX0 1 f fd ["self", "one", "number"] sp_no := F.ok sc_Terms_form_of_plus (fun vs H Q E h => False.elim h) (fun cdv A outer s H vs Q E hr h => False.elim h)
theorem ok_Terms_form_of_plus {kk : Nat} {spI : Sp} {bb : Bool} (F : Fun K "form_of_plus" "Terms.form_of_plus" s_Terms_form_of_plus f fd) (h1k : 1 ≤ kk) (hc : Cls K C) (na : ∀ f ∈ tfs, NoAttr K C f) (mI : MCal P w K mg base C "form_of_plus" kk spI) (hI : bb = true → spI = sp_pls C false)
    (c_fit : Cal P w K mg base "fit" 1 ["width", "number"] sp_fit) : FnOk P w K mg base CX0 (kk + 1) f fd ["self", "one", "number"] (sp_pls C bb) := by
  refine F.ok sc_Terms_form_of_plus (fun vs H Q E h => spN_len h) (fun cdv A outer s H vs Q E hr h => ?_)
  obtain ⟨t, _, rfl, h'0⟩ := spN_r h
  obtain ⟨a, _, rfl, h'1⟩ := spN_i h'0
  obtain ⟨n, _, rfl, h'2⟩ := spN_i h'1
  obtain ⟨rfl, h'n⟩ := spN_nil h'2
  clear h h'0 h'1 h'2
  obtain ⟨w', l, d, fs, T, pa, hb, k⟩ := h'n
  · skip
    refine ⟨_, (pss_cons (ps_set (i := 3) sc_Terms_form_of_plus.nd rfl (by first | exact Or.inl rfl | exact Or.inr rfl) (pe_ix ix_list (pe_fld (pv 0) rfl) (pv 1) (fun _ _ => rfl)))
      (pss_cons (ps_if (pt_cmpR op_eq (pe_ix ix_tup (pv 3) pe_int (fun _ _ => rfl)) pe_str (nomk _)) (pss_one (ps_ret (pe_methC (m := "form_of_plus") (k := kk) (pv 0) (hr.mono (by first | decide | assumption | exact Nat.le_refl _)) (pa_cons (pe_ix ix_tup (pv 3) pe_int (fun _ _ => rfl)) (pa_cons (pe_op op_add (pe_ix ix_tup (pv 3) pe_int (fun _ _ => rfl)) (pv 2)) pa_nil))))) pss_nil)
      (pss_cons (ps_set (i := 4) sc_Terms_form_of_plus.nd rfl (by first | exact Or.inl rfl | exact Or.inr rfl) (pe_callC c_fit (hr.mono (by first | decide | assumption | exact Nat.le_refl _)) (pa_cons (pe_fld (pv 0) rfl) (pa_cons (pv 2) pa_nil))))
      (pss_one (ps_ret (pe_ifExp (pt_cmpR op_eq (pv 4) pe_int (nomk _)) (pv 3) (pe_tupA (pa_cons pe_str (pa_cons (pv 1) (pa_cons (pv 4) pa_nil)))))))))), ?_⟩
    rw [st_Terms_form_of_plus]
    walk_at "vz"
    obtain ⟨xs, b, el, ea, eb⟩ := T.form pa
    refine fld hc (na _ ti1) T rfl ?_
    walk_at "vz"
    refine ⟨xs, _, SqL.of el, ea, ?_⟩
    walk_at "vz"
    refine ⟨_, _, SqT.of eb, (T.wf a pa).at0, ?_⟩
    walk_at "vz"
    refine ite2 (fun h => ?_) (fun h => ?_)
    · cases bb with
      | false => exact absurd h (hb rfl)
      | true =>
        cases hI rfl
        obtain ⟨b', k2, eb', pb', _, _, np, _⟩ := T.wf.plus pa h
        rw [eb'] at eb
        refine cut mI T ?_
        refine ⟨_, .int b', SqT.of eb, rfl, ?_⟩
        walk_at "vz"
        refine ⟨_, .int k2, SqT.of eb, rfl, ?_⟩
        walk_at "vz"
        refine ⟨w', l, d, fs, T, pb', fun _ => np, fun q H2 s2 e2 => k q H2 s2 ?_⟩
        have e3 : pls (M w') fs b' (k2 + n) = pls (M w') fs a n := by
          unfold pls
          rw [if_neg np, if_pos h, eb']
          rfl
        rw [← e3]
        exact e2
    · refine fld hc (na _ ti0) T rfl ?_
      walk_at "vz"
      refine ⟨T.hw, ?_⟩
      have e3 : pls (M w') fs a n = pl0 (M w') fs a n := by unfold pls; rw [if_neg h]
      unfold give at k
      rw [e3] at k
      unfold pl0 at k
      refine ite2 (fun h0 => ?_) (fun h0 => ?_)
      · exact k _ _ (Same.refl _) (by rw [if_pos h0]; exact eb)
      · exact fun q H2 n2 => k q H2 n2.same (by rw [if_neg h0]; exact n2.at')
theorem ok_Terms_form_with_number (F : Fun K "form_with_number" "Terms.form_with_number" s_Terms_form_with_number f fd) (hc : Cls K C) (na : ∀ f ∈ tfs, NoAttr K C f) (mV : MCal P w K mg base C "known" 1 (sp_val C)) (mP : MCal P w K mg base C "form_of_plus" 3 (sp_pls C true)) :
    FnOk P w K mg base CX0 4 f fd ["self", "word", "one", "other"] (sp_wn C) := by
  refine F.ok sc_Terms_form_with_number (fun vs H Q E h => spN_len h) (fun cdv A outer s H vs Q E hr h => ?_)
  obtain ⟨t, _, rfl, h'0⟩ := spN_r h
  obtain ⟨x, _, rfl, h'1⟩ := spN_s h'0
  obtain ⟨a, _, rfl, h'2⟩ := spN_i h'1
  obtain ⟨c, _, rfl, h'3⟩ := spN_i h'2
  obtain ⟨rfl, h'n⟩ := spN_nil h'3
  clear h h'0 h'1 h'2 h'3
  obtain ⟨w', l, d, fs, T, pa, pc, hn, k⟩ := h'n
  · skip
    refine ⟨_, (pss_cons (ps_set (i := 4) sc_Terms_form_with_number.nd rfl (by first | exact Or.inl rfl | exact Or.inr rfl) (pe_methC (m := "known") (k := 1) (pv 0) (hr.mono (by decide)) (pa_cons (pv 3) pa_nil)))
      (pss_cons (ps_if (pt_cmpR op_eq (pv 1) pe_str (nomk _)) (pss_one (ps_ret (pe_methC (m := "form_of_plus") (k := 3) (pv 0) (hr.mono (by decide)) (pa_cons (pv 2) (pa_cons (pv 4) pa_nil))))) pss_nil)
      (pss_cons (ps_if (pt_cmpR op_eq (pv 1) pe_str (nomk _)) (pss_one (ps_ret (pe_methC (m := "form_of_plus") (k := 3) (pv 0) (hr.mono (by decide)) (pa_cons (pv 2) (pa_cons (pe_un un_neg (pv 4)) pa_nil))))) pss_nil)
      (pss_cons (ps_if (pt_cmpR op_eq (pv 4) pe_int (nomk _)) (pss_one (ps_ret (pe_ifExp (pt_cmpR op_eq (pv 1) pe_str (nomk _)) (pe_tupA (pa_cons pe_str (pa_cons pe_int pa_nil))) (pe_ix ix_list (pe_fld (pv 0) rfl) (pv 2) (fun _ _ => rfl))))) pss_nil)
      (pss_one (ps_ret (pe_tupA (pa_cons (pv 1) (pa_cons (pv 2) (pa_cons (pv 3) pa_nil)))))))))), ?_⟩
    rw [st_Terms_form_with_number]
    walk_at "vz"
    refine cut mV T ⟨w', l, d, fs, T, pc, hn, ?_⟩
    walk_at "vz"
    unfold give wn at k
    refine ite2 (fun h => ?_) (fun h => ?_)
    · rw [if_pos h] at k
      exact cut mP T ⟨w', l, d, fs, T, pa, fun z => (nomatch z), k⟩
    rw [if_neg h] at k
    refine ite2 (fun h => ?_) (fun h => ?_)
    · rw [if_pos h] at k
      exact cut mP T ⟨w', l, d, fs, T, pa, fun z => (nomatch z), k⟩
    rw [if_neg h] at k
    refine ite2 (fun h => ?_) (fun h => ?_)
    · rw [if_pos h] at k
      refine ite2 (fun h => ?_) (fun h => ?_)
      · rw [if_pos h] at k
        exact fun q H2 n2 => k q H2 n2.same n2.at'
      · rw [if_neg h] at k
        obtain ⟨xs, b, el, ea, eb⟩ := T.form pa
        refine fld hc (na _ ti1) T rfl ?_
        walk_at "vz"
        exact ⟨xs, _, SqL.of el, ea, k _ _ (Same.refl _) eb⟩
    · rw [if_neg h] at k
      exact fun q H2 n2 => k q H2 n2.same n2.at'
theorem ok_Terms_form_of_two (F : Fun K "form_of_two" "Terms.form_of_two" s_Terms_form_of_two f fd) (B : Bls mg) (hc : Cls K C) (na : ∀ f ∈ tfs, NoAttr K C f) (mK : MCal P w K mg base C "is_known" 1 (sp_known C)) (mV : MCal P w K mg base C "known" 1 (sp_val C))
    (mW : MCal P w K mg base C "form_with_number" 4 (sp_wn C)) (c_reckoned : Cal P w K mg base "reckoned" 3 ["width", "word", "one", "other"] sp_reckoned) : FnOk P w K mg base CX0 5 f fd ["self", "word", "one", "other"] (sp_two C) := by
  refine F.ok sc_Terms_form_of_two (fun vs H Q E h => spN_len h) (fun cdv A outer s H vs Q E hr h => ?_)
  obtain ⟨t, _, rfl, h'0⟩ := spN_r h
  obtain ⟨x, _, rfl, h'1⟩ := spN_s h'0
  obtain ⟨a, _, rfl, h'2⟩ := spN_i h'1
  obtain ⟨b, _, rfl, h'3⟩ := spN_i h'2
  obtain ⟨rfl, h'n⟩ := spN_nil h'3
  clear h h'0 h'1 h'2 h'3
  obtain ⟨w', l, d, fs, T, pa, pb, k⟩ := h'n
  · skip
    refine ⟨_, (pss_cons (ps_if (PW.pt (pw_and (pt_val (pe_methC (m := "is_known") (k := 1) (pv 0) (hr.mono (by decide)) (pa_cons (pv 2) pa_nil))) (pw_and1 (pt_val (pe_methC (m := "is_known") (k := 1) (pv 0) (hr.mono (by decide)) (pa_cons (pv 3) pa_nil)))))) (pss_one (ps_ret (pe_tupA (pa_cons pe_str (pa_cons (pe_callC c_reckoned (hr.mono (by decide)) (pa_cons (pe_fld (pv 0) rfl) (pa_cons (pv 1) (pa_cons (pe_methC (m := "known") (k := 1) (pv 0) (hr.mono (by decide)) (pa_cons (pv 2) pa_nil)) (pa_cons (pe_methC (m := "known") (k := 1) (pv 0) (hr.mono (by decide)) (pa_cons (pv 3) pa_nil)) pa_nil))))) pa_nil))))) pss_nil)
      (pss_cons (ps_if (pt_val (pe_methC (m := "is_known") (k := 1) (pv 0) (hr.mono (by decide)) (pa_cons (pv 3) pa_nil))) (pss_one (ps_ret (pe_methC (m := "form_with_number") (k := 4) (pv 0) (hr.mono (by decide)) (pa_cons (pv 1) (pa_cons (pv 2) (pa_cons (pv 3) pa_nil)))))) pss_nil)
      (pss_cons (ps_if (pt_cmpR op_eq (pv 1) pe_str (nomk _)) (pss_one (ps_ret (pe_ifExp (pt_cmpR op_eq (pv 2) (pv 3) (nomk _)) (pe_tupA (pa_cons pe_str (pa_cons pe_int pa_nil))) (pe_tupA (pa_cons (pv 1) (pa_cons (pv 2) (pa_cons (pv 3) pa_nil))))))) pss_nil)
      (pss_cons (ps_if (pt_val (pe_methC (m := "is_known") (k := 1) (pv 0) (hr.mono (by decide)) (pa_cons (pv 2) pa_nil))) (pss_one (ps_ret (pe_methC (m := "form_with_number") (k := 4) (pv 0) (hr.mono (by decide)) (pa_cons (pv 1) (pa_cons (pv 3) (pa_cons (pv 2) pa_nil)))))) pss_nil)
      (pss_cons (ps_if (PW.pt (pw_and (pt_cmpR op_eq (pv 2) (pv 3) (nomk _)) (pw_and1 (pt_cmpR op_ne (pv 1) pe_str (nomk _))))) (pss_one (ps_ret (pe_ifExp (pt_cmpR op_eq (pv 1) pe_str (nomk _)) (pe_tupA (pa_cons pe_str (pa_cons pe_int pa_nil))) (pe_ix ix_list (pe_fld (pv 0) rfl) (pv 2) (fun _ _ => rfl))))) pss_nil)
      (pss_one (ps_ret (pe_tupA (pa_cons (pv 1) (pa_cons (pe_callB (call_minR rfl) rfl B.min bb_min (pa_cons (pv 2) (pa_cons (pv 3) pa_nil))) (pa_cons (pe_callB (call_maxR rfl) rfl B.max bb_max (pa_cons (pv 2) (pa_cons (pv 3) pa_nil))) pa_nil))))))))))), ?_⟩
    rw [st_Terms_form_of_two]
    walk_at "vz"
    unfold give mk2 at k
    refine cut mK T ⟨w', l, d, fs, T, pa, ?_⟩
    walk_at "vz"
    refine shareR (p := ¬ (hd (fa fs a) = "number" ∧ hd (fa fs b) = "number")) (fun h z => h z.1) (fun ha r => ?_) (fun hn => ?_)
    · refine cut mK T ⟨w', l, d, fs, T, pb, ?_⟩
      walk_at "vz"
      refine ite2 (fun hb => ?_) (fun hb => r fun z => hb z.2)
      rw [if_pos ⟨ha, hb⟩] at k
      refine fld hc (na _ ti0) T rfl ?_
      walk_at "vz"
      refine cut mV T ⟨w', l, d, fs, T, pa, ha, ?_⟩
      refine cut mV T ⟨w', l, d, fs, T, pb, hb, ?_⟩
      walk_at "vz"
      exact ⟨T.hw, fun q H2 n2 => k q H2 n2.same n2.at'⟩
    rw [if_neg hn] at k
    refine cut mK T ⟨w', l, d, fs, T, pb, ?_⟩
    walk_at "vz"
    refine ite2 (fun hb => ?_) (fun hb => ?_)
    · rw [if_pos hb] at k
      exact cut mW T ⟨w', l, d, fs, T, pa, pb, hb, k⟩
    rw [if_neg hb] at k
    refine ite2 (fun hx => ?_) (fun hx => ?_)
    · rw [if_pos hx] at k
      refine ite2 (fun e => ?_) (fun e => ?_)
      · rw [if_pos e] at k
        exact fun q H2 n2 => k q H2 n2.same n2.at'
      · rw [if_neg e] at k
        exact fun q H2 n2 => k q H2 n2.same n2.at'
    rw [if_neg hx] at k
    refine cut mK T ⟨w', l, d, fs, T, pa, ?_⟩
    walk_at "vz"
    refine ite2 (fun ha => ?_) (fun ha => ?_)
    · rw [if_pos ha] at k
      exact cut mW T ⟨w', l, d, fs, T, pb, pa, ha, k⟩
    rw [if_neg ha] at k
    refine ite2 (fun e => ?_) (fun e => ?_)
    · refine ite2 (fun h2 => ?_) (fun h2 => ?_)
      · rw [if_pos ⟨e, h2⟩] at k
        refine ite2 (fun h3 => ?_) (fun h3 => ?_)
        · rw [if_pos h3] at k
          exact fun q H2 n2 => k q H2 n2.same n2.at'
        · rw [if_neg h3] at k
          obtain ⟨xs, c, el, ea, eb⟩ := T.form pa
          refine fld hc (na _ ti1) T rfl ?_
          walk_at "vz"
          exact ⟨xs, _, SqL.of el, ea, k _ _ (Same.refl _) eb⟩
      · rw [if_neg fun z => h2 z.2] at k
        exact fun q H2 n2 => k q H2 n2.same n2.at'
    · rw [if_neg fun z => e z.1] at k
      exact fun q H2 n2 => k q H2 n2.same n2.at'
theorem ok_Terms_make {ds : List Value} {tW : Addr} (F : FunD K "make" "Terms.make" s_Terms_make f fd ds) (M_WORDS_OF_ONE : mg "WORDS_OF_ONE" = some (.ref tW)) (sq_WORDS_OF_ONE : ∀ H, SqT K H tW [.str "not", .str "left", .str "right"]) (mT : MCal P w K mg base C "term_of" 1 (sp_term C)) (mO : MCal P w K mg base C "form_of_one" 4 (sp_one C))
    (m2 : MCal P w K mg base C "form_of_two" 5 (sp_two C)) : FnOk P w K mg base CX0 6 f fd ["self", "word", "one", "other"] (sp_make C) := by
  refine F.ok sc_Terms_make (fun vs H Q E h => by obtain ⟨_, _, _, _, _, _, _, _, rfl, _⟩ := h; rfl) (fun cdv A outer s H vs Q E hr h => ?_)
  obtain ⟨t, x, a, v, w', l, d, fs, rfl, T, z, pa, h⟩ := h
  refine ⟨_, (pss_cons (ps_if (pt_cmpR op_in_seq (pv 1) (pe_glob (v := .ref _) rfl M_WORDS_OF_ONE rfl) (nomk _)) (pss_one (ps_ret (pe_methC (m := "term_of") (k := 1) (pv 0) (hr.mono (by decide)) (pa_cons (pe_methC (m := "form_of_one") (k := 4) (pv 0) (hr.mono (by decide)) (pa_cons (pv 1) (pa_cons (pv 2) pa_nil))) pa_nil)))) pss_nil)
      (pss_one (ps_ret (pe_methC (m := "term_of") (k := 1) (pv 0) (hr.mono (by decide)) (pa_cons (pe_methC (m := "form_of_two") (k := 5) (pv 0) (hr.mono (by decide)) (pa_cons (pv 1) (pa_cons (pv 2) (pa_cons (pv 3) pa_nil)))) pa_nil))))), ?_⟩
  rw [st_Terms_make]
  walk_at "vz"
  refine ⟨_, .inr (sq_WORDS_OF_ONE _), rfl, rfl, ?_⟩
  rcases h with ⟨hx, k⟩ | ⟨b, rfl, hx, pb, k⟩
  · have e : inV (.str x) [.str "not", .str "left", .str "right"] = true := by rcases hx with rfl | rfl | rfl <;> decide
    rw [e]
    have hs : Sh (M w') fs (mk1 (M w') fs x a) := mk1_sh (M_pos T.hw) T.wf (by rcases hx with rfl | rfl | rfl <;> decide) (by rcases hx with rfl | rfl | rfl <;> decide) pa
    refine iteT ?_
    exact cut mT T (cut mO T ⟨w', l, d, fs, T, pa, fun q H1 s1 eb => ⟨w', l, d, fs, _, T.same s1, z, eb, hs, fun i H' fs' p T' c => k i H' fs' p T' ((Chg.of s1).trans c)⟩⟩)
  · have e : inV (.str x) [.str "not", .str "left", .str "right"] = false := by rcases hx with rfl | rfl | rfl | rfl | rfl <;> decide
    rw [e]
    have hs : Sh (M w') fs (mk2 (M w') fs x a b) := mk2_sh (M_pos T.hw) T.wf hx pa pb
    refine iteN (by decide) ?_
    exact cut mT T (cut m2 T ⟨w', l, d, fs, T, pa, pb, fun q H1 s1 eb => ⟨w', l, d, fs, _, T.same s1, z, eb, hs, fun i H' fs' p T' c => k i H' fs' p T' ((Chg.of s1).trans c)⟩⟩)
end
section
variable {P : Program} {w : World} {K : PySem.W.Frag} {mg : Str → Option Value} {base : Heap} {f C : Addr} {fd : FuncData}
theorem ok__law_cell_at (F : Fun K "_law_cell_at" "_law_cell_at" s__law_cell_at f fd) (B : Bls mg) : FnOk P w K mg base CX0 1 f fd ["_law_script", "_law_k"] (sp_celx K) := by
  refine F.ok sc__law_cell_at (fun vs H Q E h => spN_len h) (fun cdv A outer s H vs Q E hr h => ?_)
  obtain ⟨a, _, rfl, h'0⟩ := spN_r h
  obtain ⟨i, _, rfl, h'1⟩ := spN_i h'0
  obtain ⟨rfl, h'n⟩ := spN_nil h'1
  clear h h'0 h'1
  obtain ⟨ns, hS, h0, k⟩ := h'n
  · skip
    refine ⟨_, (pss_cons (ps_if (pt_cmpR op_lt (pv 1) (pe_callB call_lenR rfl B.len bb_len (pa_cons (pv 0) pa_nil)) (nomk _)) (pss_one (ps_ret (pe_ix ix_list (pv 0) (pv 1) (fun _ _ => rfl)))) pss_nil)
      (pss_one (ps_ret pe_int))), ?_⟩
    rw [st__law_cell_at]
    walk_at "vz"
    unfold cel at k
    refine ⟨_, .inl hS, ite2 (fun h => ?_) (fun h => ?_)⟩
    · rw [List.length_map] at h
      rw [if_pos h] at k
      exact ⟨_, _, hS, atI_ints h0 h, k⟩
    · rw [List.length_map] at h
      rw [if_neg h] at k
      exact k
theorem ok__law_is_row (F : Fun K "_law_is_row" "_law_is_row" s__law_is_row f fd) : FnOk P w K mg base CX0 1 f fd ["_law_cell"] sp_isrow := by
  refine F.ok sc__law_is_row (fun vs H Q E h => spN_len h) (fun cdv A outer s H vs Q E hr h => ?_)
  obtain ⟨c, _, rfl, h'0⟩ := spN_i h
  obtain ⟨rfl, h'n⟩ := spN_nil h'0
  clear h h'0
  have k := h'n
  · skip
    refine ⟨_, (pss_one (ps_ret (pe_and (pe_cmpR op_ge (pv 0) (pe_op op_shl pe_int pe_int) (nomk _)) (pe_one (pe_cmpR op_eq (pe_op op_mod (pv 0) pe_int) pe_int (nomk _)))))), ?_⟩
    rw [st__law_is_row]
    walk_at "vz"
    exact ite2 (fun h => qb k (by simp [isR, h])) (fun h => qb k (by simp [isR, h]))
theorem ok__law_mixed (F : Fun K "_law_mixed" "_law_mixed" s__law_mixed f fd) (c__law_is_row : Cal P w K mg base "_law_is_row" 1 ["_law_cell"] sp_isrow) : FnOk P w K mg base CX0 2 f fd ["_law_cell", "_law_k"] sp_mixd := by
  refine F.ok sc__law_mixed (fun vs H Q E h => spN_len h) (fun cdv A outer s H vs Q E hr h => ?_)
  obtain ⟨c, _, rfl, h'0⟩ := spN_i h
  obtain ⟨i, _, rfl, h'1⟩ := spN_i h'0
  obtain ⟨rfl, h'n⟩ := spN_nil h'1
  clear h h'0 h'1
  obtain ⟨hi, k⟩ := h'n
  · skip
    refine ⟨_, (pss_cons (ps_if (PW.pt (pw_and (pt_val (pe_callC c__law_is_row (hr.mono (by decide)) (pa_cons (pv 0) pa_nil))) (pw_and1 (pt_cmpR op_gt (pe_op op_shr (pv 0) (pe_op op_add pe_int (pe_op op_mul pe_int (pv 1)))) pe_int (nomk _))))) (pss_one (ps_ret (pe_op op_mod (pe_op op_shr (pv 0) (pe_op op_add pe_int (pe_op op_mul pe_int (pv 1)))) pe_int))) pss_nil)
      (pss_cons (ps_set (i := 2) sc__law_mixed.nd rfl (by first | exact Or.inl rfl | exact Or.inr rfl) (pe_op op_mod (pe_op op_mul (pe_op op_add (pe_op op_add (pv 0) (pe_op op_mul pe_int (pv 1))) pe_int) pe_int) pe_int))
      (pss_cons (ps_set (i := 2) sc__law_mixed.nd rfl (by first | exact Or.inl rfl | exact Or.inr rfl) (pe_op op_mod (pe_op op_mul (pv 2) (pe_op op_add (pe_op op_fdiv (pv 2) pe_int) pe_int)) pe_int))
      (pss_one (ps_ret (pe_op op_mod (pe_op op_mul (pv 2) (pe_op op_add (pe_op op_add (pe_op op_fdiv (pv 2) pe_int) pe_int) (pv 1))) pe_int)))))), ?_⟩
    rw [st__law_mixed]
    walk_at "vz"
    unfold mxd at k
    have kz : ¬ (isR c = true ∧ 0 < c / 2 ^ (1 + 31 * i).toNat) → Q (.int (mxz i (mxy (mxx c i)))) H := fun h => by rw [if_neg h] at k; exact k
    have kp : (isR c = true ∧ 0 < c / 2 ^ (1 + 31 * i).toNat) → Q (.int (c / 2 ^ (1 + 31 * i).toNat % 2147483648)) H := fun h => by rw [if_pos h] at k; exact k
    clear k
    unfold mxz mxy mxx at kz
    have hx : 0 ≤ (c + 7919 * i + 1) * 48271 % 2147483647 ∧ (c + 7919 * i + 1) * 48271 % 2147483647 < 2147483647 := ⟨by omega, by omega⟩
    generalize (c + 7919 * i + 1) * 48271 % 2147483647 = x at hx kz ⊢
    have hy : 0 ≤ x * (x / 1009 + 69621) % 2147483647 ∧ x * (x / 1009 + 69621) % 2147483647 < 2147483647 := ⟨Int.emod_nonneg _ (by decide), Int.emod_lt_of_pos _ (by decide)⟩
    generalize x * (x / 1009 + 69621) % 2147483647 = y at hy kz ⊢
    refine ite2 (fun h => ⟨by omega, ite2 (fun h' => ⟨by omega, kp ⟨h, h'⟩⟩) (fun h' => ⟨.inl (by omega), .inl (by omega), kz fun z => h' z.2⟩)⟩) (fun h => ⟨.inl (by omega), .inl (by omega), kz fun z => h z.1⟩)
theorem ok__law_number (F : Fun K "_law_number" "_law_number" s__law_number f fd) (c__law_is_row : Cal P w K mg base "_law_is_row" 1 ["_law_cell"] sp_isrow) (c__law_mixed : Cal P w K mg base "_law_mixed" 2 ["_law_cell", "_law_k"] sp_mixd) :
    FnOk P w K mg base CX0 3 f fd ["_law_cell", "_law_k", "_law_width"] sp_nbd := by
  refine F.ok sc__law_number (fun vs H Q E h => spN_len h) (fun cdv A outer s H vs Q E hr h => ?_)
  obtain ⟨c, _, rfl, h'0⟩ := spN_i h
  obtain ⟨i, _, rfl, h'1⟩ := spN_i h'0
  obtain ⟨w', _, rfl, h'2⟩ := spN_i h'1
  obtain ⟨rfl, h'n⟩ := spN_nil h'2
  clear h h'0 h'1 h'2
  obtain ⟨hw, hi, k⟩ := h'n
  · skip
    refine ⟨_, (pss_cons (ps_set (i := 3) sc__law_number.nd rfl (by first | exact Or.inl rfl | exact Or.inr rfl) (pe_callC c__law_mixed (hr.mono (by decide)) (pa_cons (pv 0) (pa_cons (pv 1) pa_nil))))
      (pss_cons (ps_set (i := 4) sc__law_number.nd rfl (by first | exact Or.inl rfl | exact Or.inr rfl) (pe_op op_mod (pe_op op_mul (pe_op op_mul (pe_op op_fdiv (pv 3) pe_int) pe_int) pe_int) (pe_op op_shl pe_int (pv 2))))
      (pss_cons (ps_if (pt_val (pe_callC c__law_is_row (hr.mono (by decide)) (pa_cons (pv 0) pa_nil))) (pss_one (ps_set (i := 4) sc__law_number.nd rfl (by first | exact Or.inl rfl | exact Or.inr rfl) (pe_op op_mod (pe_op op_add (pe_callC c__law_mixed (hr.mono (by decide)) (pa_cons (pv 0) (pa_cons (pe_op op_add pe_int (pe_op op_mul pe_int (pv 1))) pa_nil))) (pe_op op_shl (pe_callC c__law_mixed (hr.mono (by decide)) (pa_cons (pv 0) (pa_cons (pe_op op_add pe_int (pe_op op_mul pe_int (pv 1))) pa_nil))) pe_int)) (pe_op op_shl pe_int (pv 2))))) pss_nil)
      (pss_one (ps_ret (pe_ix ix_list (pe_lstA (pa_cons (pe_op op_mod (pe_op op_mod (pe_op op_fdiv (pv 3) pe_int) pe_int) (pe_op op_shl pe_int (pv 2))) (pa_cons (pe_op op_sub (pe_op op_sub (pe_op op_shl pe_int (pv 2)) pe_int) (pe_op op_mod (pe_op op_fdiv (pv 3) pe_int) pe_int)) (pa_cons (pv 4) (pa_cons pe_int pa_nil))))) (pe_op op_mod (pv 3) pe_int) (fun _ _ => rfl))))))), ?_⟩
    rw [st__law_number]
    have hp := pw hw
    have hb1 := mxd_bd c i
    have hb2 := mxd_bd c (201 + 2 * i)
    walk_at "vz"
    have e4 : 0 ≤ mxd c i % 4 ∧ mxd c i % 4 < 4 := by omega
    refine ⟨hi, ⟨by omega, by omega⟩, by omega, ite2 (fun h => ⟨by omega, by omega, by omega, ⟨by omega, by omega⟩, by omega, ⟨by omega, by omega⟩, by omega, ⟨by omega, by omega⟩, fun p H2 n2 => ?_⟩) (fun h => ⟨⟨by omega, by omega⟩, by omega, ⟨by omega, by omega⟩, fun p H2 n2 => ?_⟩)⟩
    · have k2 := k H2 n2.same
      unfold nbd lgd at k2
      rw [if_pos h] at k2
      exact ⟨(nbl c i w' _).map V.int, _, SqL.of n2.at', atI_ints e4.1 e4.2, k2⟩
    · have k2 := k H2 n2.same
      unfold nbd lgd at k2
      rw [if_neg h] at k2
      exact ⟨(nbl c i w' _).map V.int, _, SqL.of n2.at', atI_ints e4.1 e4.2, k2⟩
theorem ok__law_term (F : Fun K "_law_term" "_law_term" s__law_term f fd) (c__law_mixed : Cal P w K mg base "_law_mixed" 2 ["_law_cell", "_law_k"] sp_mixd) (c__law_number : Cal P w K mg base "_law_number" 3 ["_law_cell", "_law_k", "_law_width"] sp_nbd)
    (mN : MCal P w K mg base C "number" 2 (sp_num C)) (mU : MCal P w K mg base C "unknown" 2 (sp_unk C)) (mM : MCal P w K mg base C "make" 6 (sp_make C)) : FnOk P w K mg base CX0 7 f fd ["_law_terms", "_law_cell", "_law_width"] (sp_lterm C) := by
  refine F.ok sc__law_term (fun vs H Q E h => spN_len h) (fun cdv A outer s H vs Q E hr h => ?_)
  obtain ⟨t, _, rfl, h'0⟩ := spN_r h
  obtain ⟨c, _, rfl, h'1⟩ := spN_i h'0
  obtain ⟨w', _, rfl, h'2⟩ := spN_i h'1
  obtain ⟨rfl, h'n⟩ := spN_nil h'2
  clear h h'0 h'1 h'2
  obtain ⟨l, d, fs, T, z, k⟩ := h'n
  · skip
    refine ⟨_, (pss_cons (ps_set (i := 3) sc__law_term.nd rfl (by first | exact Or.inl rfl | exact Or.inr rfl) (pe_callC c__law_mixed (hr.mono (by decide)) (pa_cons (pv 1) (pa_cons pe_int pa_nil))))
      (pss_cons (ps_if (pt_cmpR op_eq (pe_op op_mod (pv 3) pe_int) pe_int (nomk _)) (pss_one (ps_ret (pe_methC (m := "number") (k := 2) (pv 0) (hr.mono (by decide)) (pa_cons (pe_callC c__law_number (hr.mono (by decide)) (pa_cons (pv 1) (pa_cons pe_int (pa_cons (pv 2) pa_nil)))) pa_nil)))) pss_nil)
      (pss_cons (ps_set (i := 4) sc__law_term.nd rfl (by first | exact Or.inl rfl | exact Or.inr rfl) (pe_methC (m := "unknown") (k := 2) (pv 0) (hr.mono (by decide)) (pa_cons (pe_ix ix_list (pe_lstA (pa_cons pe_str (pa_cons pe_str (pa_cons pe_str pa_nil)))) (pe_op op_mod (pe_op op_fdiv (pv 3) pe_int) pe_int) (fun _ _ => rfl)) (pa_cons (pe_op op_mod (pe_op op_fdiv (pv 3) pe_int) pe_int) pa_nil))))
      (pss_cons (ps_if (pt_cmpR op_eq (pe_op op_mod (pv 3) pe_int) pe_int (nomk _)) (pss_one (ps_ret (pe_methC (m := "make") (k := 6) (pv 0) (hr.mono (by decide)) (pa_cons pe_str (pa_cons (pv 4) (pa_cons (pe_methC (m := "number") (k := 2) (pv 0) (hr.mono (by decide)) (pa_cons (pe_callC c__law_number (hr.mono (by decide)) (pa_cons (pv 1) (pa_cons pe_int (pa_cons (pv 2) pa_nil)))) pa_nil)) pa_nil)))))) pss_nil)
      (pss_cons (ps_if (pt_cmpR op_eq (pe_op op_mod (pv 3) pe_int) pe_int (nomk _)) (pss_one (ps_ret (pv 4))) pss_nil)
      (pss_cons (ps_set (i := 5) sc__law_term.nd rfl (by first | exact Or.inl rfl | exact Or.inr rfl) (pe_methC (m := "unknown") (k := 2) (pv 0) (hr.mono (by decide)) (pa_cons pe_str (pa_cons (pe_op op_mod (pe_op op_fdiv (pv 3) pe_int) pe_int) pa_nil))))
      (pss_one (ps_ret (pe_methC (m := "make") (k := 6) (pv 0) (hr.mono (by decide)) (pa_cons (pe_ix ix_list (pe_lstA (pa_cons pe_str (pa_cons pe_str (pa_cons pe_str (pa_cons pe_str (pa_cons pe_str (pa_cons pe_str pa_nil))))))) (pe_op op_mod (pe_op op_fdiv (pv 3) pe_int) pe_int) (fun _ _ => rfl)) (pa_cons (pv 4) (pa_cons (pv 5) pa_nil)))))))))))), ?_⟩
    rw [st__law_term]
    walk_at "vz"
    refine ite2 (fun h => ?_) (fun h => ?_)
    · refine cut mN T ⟨T.hw, fun H1 s1 => t_num (T.same s1) (by omega) fun i H' fs' p T' ch => k i H' fs' p.ex (by have := p.le; omega) T' ((Chg.of s1).trans ch) (by unfold Is; rw [if_pos h]; exact p.at_) p.at_.1⟩
    refine cut mU T fun p1 H1 n1 => ⟨_, _, SqL.of n1.at', atI_strs (ss := ["box", "got", "bits"]) (k := mxd c 1 / 5 % 3) (by omega) (by show _ < (3 : Int); omega), ?_⟩
    refine t_unk (T.same n1.same) (by omega) fun j H2 fs2 p2 T2 c2 => ?_
    have ch2 : Chg l d H H2 := (Chg.of n1.same).trans c2
    have le2 := p2.le
    walk_at "vz"
    refine ite2 (fun h1 => ?_) (fun h1 => ?_)
    · refine cut mM T2 (cut mN T2 ⟨T.hw, fun H3 s3 => t_num (T2.same s3) (by omega) fun y H4 fs4 p4 T4 c4 => ?_⟩)
      have le4 := p4.le
      refine t_mk2 T4 (by omega) (.inl rfl) (p2.at_.1.ex p4.ex) p4.at_.1 fun i H' fs' p T' ch => ?_
      have le5 := p.le
      refine k i H' fs' (p2.ex.trans (p4.ex.trans p.ex)) (by omega) T' (ch2.trans ((Chg.of s3).trans (c4.trans ch))) ?_ p.at_.1
      unfold Is
      rw [if_neg h]
      refine ⟨j, p2.at_.ex (p4.ex.trans p.ex), ?_⟩
      rw [if_pos h1]
      exact ⟨y, p4.at_.ex p.ex, by rw [mk2_ex T4.wf p.ex (p2.at_.1.ex p4.ex) p4.at_.1]; exact p.at_⟩
    refine ite2 (fun h2 => ?_) (fun h2 => ?_)
    · refine k j H2 fs2 p2.ex (by omega) T2 ch2 ?_ p2.at_.1
      unfold Is
      rw [if_neg h]
      refine ⟨j, p2.at_, ?_⟩
      rw [if_neg h1, if_pos h2]
    refine cut mU T2 (t_unk T2 (by omega) fun o H3 fs3 p3 T3 c3 => ?_)
    have le3 := p3.le
    walk_at "vz"
    refine cut mM T3 fun p4 H4 n4 => ⟨_, _, SqL.of n4.at', atI_strs (ss := ["add", "sub", "and", "or", "xor", "sub"]) (k := mxd c 1 / 960 % 6) (by omega) (by show _ < (6 : Int); omega), ?_⟩
    refine t_mk2 (T3.same n4.same) (by omega) (wd6_w2 (mxd c 1)) (p2.at_.1.ex p3.ex) p3.at_.1 fun i H' fs' p T' ch => ?_
    have le5 := p.le
    refine k i H' fs' (p2.ex.trans (p3.ex.trans p.ex)) (by omega) T' (ch2.trans (c3.trans ((Chg.of n4.same).trans ch))) ?_ p.at_.1
    unfold Is
    rw [if_neg h]
    refine ⟨j, p2.at_.ex (p3.ex.trans p.ex), ?_⟩
    rw [if_neg h1, if_neg h2]
    exact ⟨o, p3.at_.ex p.ex, by rw [mk2_ex T3.wf p.ex (p2.at_.1.ex p3.ex) p3.at_.1]; exact p.at_⟩
end
section
variable {P : Program} {w : World} {K : PySem.W.Frag} {mg : Str → Option Value} {base : Heap} {f C : Addr} {fd : FuncData}
theorem ok__law_nothing_done (F : Fun K "_law_nothing_done" "_law_nothing_done" s__law_nothing_done f fd) (B : Bls mg) (mN : MCal P w K mg base C "number" 2 (sp_num C)) (mM : MCal P w K mg base C "make" 6 (sp_make C)) (mD : MCalD P w K mg base C "make" 6 (sp_make C) [.non]) :
    FnOk P w K mg base CX0 7 f fd ["_law_terms", "_law_x"] (sp_lnd C) := by
  refine F.ok sc__law_nothing_done (fun vs H Q E h => spN_len h) (fun cdv A outer s H vs Q E hr h => ?_)
  obtain ⟨t, _, rfl, h'0⟩ := spN_r h
  obtain ⟨x, _, rfl, h'1⟩ := spN_i h'0
  obtain ⟨rfl, h'n⟩ := spN_nil h'1
  clear h h'0 h'1
  obtain ⟨w', l, d, fs, T, z, px, k⟩ := h'n
  · skip
    have hU := hr.units
    have hm := M_pos T.hw
    refine ⟨_, (pss_cons (ps_set (i := 2) sc__law_nothing_done.nd rfl (by first | exact Or.inl rfl | exact Or.inr rfl) (pe_methC (m := "number") (k := 2) (pv 0) (hr.mono (by decide)) (pa_cons pe_int pa_nil)))
      (pss_cons (ps_setC (i := 3) sc__law_nothing_done.nd rfl rfl rfl (BlkOk.ofS (tn := ["_law_word"]) (M := ["_law_terms", "_law_x", "_law_zero", "_law_found"]) (N := ["_law_terms", "_law_x", "_law_zero", "_law_found"]) (sc := defScope s__law_nothing_done) rfl rfl rfl (by decide +kernel)) (pi_tup (pe_tupA (pa_cons pe_str (pa_cons pe_str (pa_cons pe_str (pa_cons pe_str pa_nil)))))) (fun _ _ _ _ => (pg_name (i := 0) (show List.Nodup ((["_law_word"] : List Str) ++ (["_law_terms", "_law_x", "_law_zero", "_law_found"] : List Str)) by decide +kernel) rfl (by first | exact Or.inl rfl | exact Or.inr rfl))) (fun _ _ _ _ => pts_nil) (fun _ _ _ _ => (pe_methCB (m := "make") (k := 6) (pv 1) (hr.mono (by decide)) (pa_cons (pv 0) (pa_cons (pv 2) (pa_cons (pv 3) pa_nil))))))
      (pss_cons (ps_set (i := 3) sc__law_nothing_done.nd rfl (by first | exact Or.inl rfl | exact Or.inr rfl) (pe_op op_catA (pv 3) (pe_lstA (pa_cons (pe_methC (m := "make") (k := 6) (pv 0) (hr.mono (by decide)) (pa_cons pe_str (pa_cons (pv 2) (pa_cons (pv 1) pa_nil)))) (pa_cons (pe_methC (m := "make") (k := 6) (pv 0) (hr.mono (by decide)) (pa_cons pe_str (pa_cons (pv 2) (pa_cons (pv 1) pa_nil)))) (pa_cons (pe_methC (m := "make") (k := 6) (pv 0) (hr.mono (by decide)) (pa_cons pe_str (pa_cons (pv 2) (pa_cons (pv 1) pa_nil)))) pa_nil))))))
      (pss_cons (ps_set (i := 3) sc__law_nothing_done.nd rfl (by first | exact Or.inl rfl | exact Or.inr rfl) (pe_op op_catA (pv 3) (pe_lstA (pa_cons (pe_methC (m := "make") (k := 6) (pv 0) (hr.mono (by decide)) (pa_cons pe_str (pa_cons (pv 1) (pa_cons (pv 1) pa_nil)))) (pa_cons (pe_methC (m := "make") (k := 6) (pv 0) (hr.mono (by decide)) (pa_cons pe_str (pa_cons (pv 1) (pa_cons (pv 1) pa_nil)))) (pa_cons (pe_methD (m := "make") (k := 6) (dvs := [.non]) (pv 0) (hr.mono (by decide)) (pa_cons pe_str (pa_cons (pe_methD (m := "make") (k := 6) (dvs := [.non]) (pv 0) (hr.mono (by decide)) (pa_cons pe_str (pa_cons (pv 1) pa_nil))) pa_nil))) pa_nil))))))
      (pss_one (ps_ret (pe_cmpR (op_eqD hU) (pv 3) (pe_op op_repA (pe_lstA (pa_cons (pv 1) pa_nil)) (pe_callB call_lenR rfl B.len bb_len (pa_cons (pv 3) pa_nil))) (nomk _)))))))), ?_⟩
    rw [st__law_nothing_done]
    walk_at "vz"
    refine cut mN T (t_num T (by omega) fun y H1 fs1 p1 T1 c1 => ?_)
    have ey : At fs1 y (nu 0) := by have := p1.at_; rwa [Int.zero_emod] at this
    have px1 := px.ex p1.ex
    have le1 := p1.le
    walk_at "vz"
    intro pt H2 n2
    refine ⟨⟨_, SqT.of n2.at'⟩, ?_⟩
    refine compA_tup [.str "add", .str "sub", .str "or", .str "xor"] (fun i vs σ' H' => vs = List.replicate i (.int x) ∧ (∃ b, σ' = b :: [some (.ref t), some (.int x), some (.int y), none]) ∧ ∃ fs', Tb H' C t w' l d fs' ∧ Ex fs1 fs' ∧ fs'.length ≤ fs1.length + i ∧ Chg l d H2 H')
      ⟨rfl, ⟨none, rfl⟩, fs1, T1.same n2.same, Ex.refl _, Nat.le_refl _, fun _ _ _ _ e => e⟩ (fun i vs σ H' _ h => ?_) (by decide) (fun i vs σ H' h => by rw [h.1]; simp) ?_ ?_
    · obtain ⟨_, _, fs', T', e', le', c'⟩ := h
      have nn := T1.ne n2.nw
      exact SqT.of (c' _ _ nn.1 nn.2 n2.at')
    · rintro i v vs σ' H' hi ⟨rfl, ⟨b, rfl⟩, fs', T', e', le', c'⟩
      have hv : i < 4 ∧ ∃ wd, v = .str wd ∧ (wd = "add" ∨ wd = "sub" ∨ wd = "or" ∨ wd = "xor") := by
        match i, hi with
        | 0, hi => exact ⟨by omega, _, (Option.some.inj hi).symm, .inl rfl⟩
        | 1, hi => exact ⟨by omega, _, (Option.some.inj hi).symm, .inr (.inl rfl)⟩
        | 2, hi => exact ⟨by omega, _, (Option.some.inj hi).symm, .inr (.inr (.inl rfl))⟩
        | 3, hi => exact ⟨by omega, _, (Option.some.inj hi).symm, .inr (.inr (.inr rfl))⟩
        | n + 4, hi => exact nomatch hi
      obtain ⟨h4, wd, rfl, hwd⟩ := hv
      rw [Rd.g0, Rd.all, if_pos rfl]
      walk_at "vz"
      refine cut mM T' (t_mk2 T' (by omega) (w2_a hwd) (px1.ex e') (ey.1.ex e') fun j H3 fs3 p3 T3 c3 => ?_)
      have le3 := p3.le
      have ej : x = j := p3.is T3.uq ⟨px1.ex e', rfl⟩ (mk2_z hm T'.wf (px1.ex e') (ey.ex e').2 hwd)
      subst ej
      exact ⟨by rw [List.replicate_succ'], ⟨_, rfl⟩, fs3, T3, e'.trans p3.ex, by omega, c'.trans c3⟩
    · rintro vs σ' H' ⟨rfl, _, fs', T', e', le', c'⟩ p3 H3 n3
      replace le' : fs'.length ≤ fs1.length + 4 := le'
      replace n3 : New H' p3 (.lst (List.replicate 4 (.int x))) H3 := n3
      have T3 := T'.same n3.same
      have px3 := px1.ex e'
      have ey3 := ey.ex e'
      have ch3 : Chg l d H H3 := c1.trans ((Chg.of n2.same).trans (c'.trans (Chg.of n3.same)))
      walk_at "vz"
      refine cut mM T3 (t_mk2 T3 (by omega) (.inl rfl) ey3.1 px3 fun a4 H4 fs4 p4 T4 c4 => ?_)
      have le4 := p4.le
      have e4 : x = a4 := p4.is T4.uq ⟨px3, rfl⟩ ((mk2_comm T3.wf (.inl rfl) ey3.1 px3).trans (mk2_z hm T3.wf px3 ey3.2 (.inl rfl)))
      subst e4
      have px4 := px3.ex p4.ex
      have ey4 := ey3.ex p4.ex
      refine cut mM T4 (t_mk2 T4 (by omega) (.inr (.inr (.inr (.inl rfl)))) ey4.1 px4 fun a5 H5 fs5 p5 T5 c5 => ?_)
      have le5 := p5.le
      have e5 : x = a5 := p5.is T5.uq ⟨px4, rfl⟩ ((mk2_comm T4.wf (.inr (.inr (.inl rfl))) ey4.1 px4).trans (mk2_z hm T4.wf px4 ey4.2 (.inr (.inr (.inl rfl)))))
      subst e5
      have px5 := px4.ex p5.ex
      have ey5 := ey4.ex p5.ex
      refine cut mM T5 (t_mk2 T5 (by omega) (.inr (.inr (.inr (.inr rfl)))) ey5.1 px5 fun a6 H6 fs6 p6 T6 c6 => ?_)
      have le6 := p6.le
      have e6 : x = a6 := p6.is T6.uq ⟨px5, rfl⟩ ((mk2_comm T5.wf (.inr (.inr (.inr rfl))) ey5.1 px5).trans (mk2_z hm T5.wf px5 ey5.2 (.inr (.inr (.inr rfl)))))
      subst e6
      have px6 := px5.ex p6.ex
      intro p7 H7 n7
      have T7 := T6.same n7.same
      have n3l := T'.ne n3.nw
      have c37 : Chg l d H3 H7 := c4.trans (c5.trans (c6.trans (Chg.of n7.same)))
      refine ⟨_, _, c37 _ _ n3l.1 n3l.2 n3.at', n7.at', by simp, fun p8 H8 n8 => ?_⟩
      have T8 := T7.same n8.same
      have n8l := T7.ne n8.nw
      walk_at "vz"
      refine cut mM T8 (t_mk2 T8 (by omega) (.inr (.inr (.inl rfl))) px6 px6 fun a9 H9 fs9 p9 T9 c9 => ?_)
      have le9 := p9.le
      have e9 : x = a9 := p9.is T9.uq ⟨px6, rfl⟩ (mk2_self T8.wf px6 (.inl rfl))
      subst e9
      have px9 := px6.ex p9.ex
      refine cut mM T9 (t_mk2 T9 (by omega) (.inr (.inr (.inr (.inl rfl)))) px9 px9 fun b1 J1 gs1 q1 U1 d1 => ?_)
      have ge1 := q1.le
      have f1 : x = b1 := q1.is U1.uq ⟨px9, rfl⟩ (mk2_self T9.wf px9 (.inr rfl))
      subst f1
      have pxa := px9.ex q1.ex
      refine cutD mD U1 (cutD mD U1 (t_mk1 U1 (by omega) (.inl rfl) pxa fun b2 J2 gs2 q2 U2 d2 => ?_))
      have ge2 := q2.le
      have pxb := pxa.ex q2.ex
      refine t_mk1 U2 (by omega) (.inl rfl) q2.at_.1 fun b3 J3 gs3 q3 U3 d3 => ?_
      have ge3 := q3.le
      have f3 : x = b3 := q3.is U3.uq ⟨pxb, rfl⟩ (mk1_not2 hm U2.wf U2.uq pxb (by rw [mk1_ex U1.wf q2.ex pxa]; exact q2.at_))
      subst f3
      intro p4' J4 m4
      have c84 : Chg l d H8 J4 := c9.trans (d1.trans (d2.trans (d3.trans (Chg.of m4.same))))
      refine ⟨_, _, c84 _ _ n8l.1 n8l.2 n8.at', m4.at', by simp, fun p5' J5 m5 => ?_⟩
      walk_at "vz"
      have e5' : J5 p5' = some (.lst (List.replicate 10 (.int x))) := m5.at'
      refine fun p6' J6 m6 => ⟨_, .inl (SqL.of (m6.same _ _ e5')), _, m6.at', by rw [List.length_replicate]; decide, by rw [List.length_replicate]; decide, by rw [List.length_replicate]; show 1 * 10 ≤ 16777216; decide, fun p7' J7 m7 => ?_⟩
      have U7 := U3.same (m4.same.trans (m5.same.trans (m6.same.trans m7.same)))
      refine eqL (ns := List.replicate 10 x) ((m6.same.trans m7.same) _ _ e5') m7.at' (k J7 gs3 ?_ (by omega) U7 ?_)
      · exact p1.ex.trans (e'.trans (p4.ex.trans (p5.ex.trans (p6.ex.trans (p9.ex.trans (q1.ex.trans (q2.ex.trans q3.ex)))))))
      · exact ch3.trans (c37.trans ((Chg.of n8.same).trans (c84.trans (Chg.of (m5.same.trans (m6.same.trans m7.same))))))
end
/-- the three that the numbers are about -/
structure E3 (fs : List Fm) (x i j a b : Int) : Prop where
  px : Pl fs x
  e1 : At fs i (nu a)
  e2 : At fs j (nu b)
theorem E3.ex {fs fs' : List Fm} {x i j a b : Int} (h : E3 fs x i j a b) (e : Ex fs fs') : E3 fs' x i j a b := ⟨h.px.ex e, h.e1.ex e, h.e2.ex e⟩
theorem Put.at2 {fs fs' : List Fm} {f g : Fm} {i : Int} (p : Put fs f i fs') (e : f = g) : At fs' i g := e ▸ p.at_
section
variable {P : Program} {w : World} {K : PySem.W.Frag} {mg : Str → Option Value} {base : Heap} {f C : Addr} {fd : FuncData}
theorem ok__law_nought (F : Fun K "_law_nought" "_law_nought" s__law_nought f fd) (mN : MCal P w K mg base C "number" 2 (sp_num C)) (mM : MCal P w K mg base C "make" 6 (sp_make C)) : FnOk P w K mg base CX0 7 f fd ["_law_terms", "_law_x"] (sp_lnd C) := by
  refine F.ok sc__law_nought (fun vs H Q E h => spN_len h) (fun cdv A outer s H vs Q E hr h => ?_)
  obtain ⟨t, _, rfl, h'0⟩ := spN_r h
  obtain ⟨x, _, rfl, h'1⟩ := spN_i h'0
  obtain ⟨rfl, h'n⟩ := spN_nil h'1
  clear h h'0 h'1
  obtain ⟨w', l, d, fs, T, z, px, k⟩ := h'n
  · skip
    have hU := hr.units
    have hm := M_pos T.hw
    refine ⟨_, (pss_cons (ps_set (i := 2) sc__law_nought.nd rfl (by first | exact Or.inl rfl | exact Or.inr rfl) (pe_methC (m := "number") (k := 2) (pv 0) (hr.mono (by decide)) (pa_cons pe_int pa_nil)))
      (pss_cons (ps_set (i := 3) sc__law_nought.nd rfl (by first | exact Or.inl rfl | exact Or.inr rfl) (pe_lstA (pa_cons (pe_methC (m := "make") (k := 6) (pv 0) (hr.mono (by decide)) (pa_cons pe_str (pa_cons (pv 1) (pa_cons (pv 1) pa_nil)))) (pa_cons (pe_methC (m := "make") (k := 6) (pv 0) (hr.mono (by decide)) (pa_cons pe_str (pa_cons (pv 1) (pa_cons (pv 1) pa_nil)))) (pa_cons (pe_methC (m := "make") (k := 6) (pv 0) (hr.mono (by decide)) (pa_cons pe_str (pa_cons (pv 1) (pa_cons (pv 2) pa_nil)))) (pa_cons (pe_methC (m := "make") (k := 6) (pv 0) (hr.mono (by decide)) (pa_cons pe_str (pa_cons (pv 2) (pa_cons (pv 1) pa_nil)))) pa_nil))))))
      (pss_one (ps_ret (pe_cmpR (op_eqD hU) (pv 3) (pe_lstA (pa_cons (pv 2) (pa_cons (pv 2) (pa_cons (pv 2) (pa_cons (pv 2) pa_nil))))) (nomk _)))))), ?_⟩
    rw [st__law_nought]
    walk_at "vz"
    refine cut mN T (t_num T (by omega) fun y H1 fs1 p1 T1 c1 => ?_)
    have ey : At fs1 y (nu 0) := p1.at2 (by rw [Int.zero_emod])
    have px1 := px.ex p1.ex
    have le1 := p1.le
    walk_at "vz"
    refine cut mM T1 (t_mk2 T1 (by omega) (.inr (.inl rfl)) px1 px1 fun a2 H2 fs2 p2 T2 c2 => ?_)
    have e2 : y = a2 := p2.is T2.uq ey (mk2_nought T1.wf px1 (.inl rfl))
    subst e2
    have le2 := p2.le
    have px2 := px1.ex p2.ex
    have ey2 := ey.ex p2.ex
    refine cut mM T2 (t_mk2 T2 (by omega) (.inr (.inr (.inr (.inr rfl)))) px2 px2 fun a3 H3 fs3 p3 T3 c3 => ?_)
    have e3 : y = a3 := p3.is T3.uq ey2 (mk2_nought T2.wf px2 (.inr rfl))
    subst e3
    have le3 := p3.le
    have px3 := px2.ex p3.ex
    have ey3 := ey2.ex p3.ex
    refine cut mM T3 (t_mk2 T3 (by omega) (.inr (.inr (.inl rfl))) px3 ey3.1 fun a4 H4 fs4 p4 T4 c4 => ?_)
    have e4 : y = a4 := p4.is T4.uq ey3 (mk2_andz T3.wf px3 ey3.2)
    subst e4
    have le4 := p4.le
    have px4 := px3.ex p4.ex
    have ey4 := ey3.ex p4.ex
    refine cut mM T4 (t_mk2 T4 (by omega) (.inr (.inr (.inl rfl))) ey4.1 px4 fun a5 H5 fs5 p5 T5 c5 => ?_)
    have e5 : y = a5 := p5.is T5.uq ey4 ((mk2_comm T4.wf (.inr (.inl rfl)) ey4.1 px4).trans (mk2_andz T4.wf px4 ey4.2))
    subst e5
    have le5 := p5.le
    intro q1 J1 m1 q2 J2 m2
    refine eqL (ns := [y, y, y, y]) (m2.same _ _ m1.at') m2.at' (k J2 fs5 (p1.ex.trans (p2.ex.trans (p3.ex.trans (p4.ex.trans p5.ex)))) (by omega) (T5.same (m1.same.trans m2.same)) (c1.trans (c2.trans (c3.trans (c4.trans (c5.trans (Chg.of (m1.same.trans m2.same))))))))
theorem ok__law_numbers (F : Fun K "_law_numbers" "_law_numbers" s__law_numbers f fd) (mN : MCal P w K mg base C "number" 2 (sp_num C)) (mM : MCal P w K mg base C "make" 6 (sp_make C)) (mD : MCalD P w K mg base C "make" 6 (sp_make C) [.non]) :
    FnOk P w K mg base CX0 7 f fd ["_law_terms", "_law_x", "_law_first", "_law_second", "_law_width"] (sp_lns C) := by
  refine F.ok sc__law_numbers (fun vs H Q E h => spN_len h) (fun cdv A outer s H vs Q E hr h => ?_)
  obtain ⟨t, _, rfl, h'0⟩ := spN_r h
  obtain ⟨x, _, rfl, h'1⟩ := spN_i h'0
  obtain ⟨a, _, rfl, h'2⟩ := spN_i h'1
  obtain ⟨b, _, rfl, h'3⟩ := spN_i h'2
  obtain ⟨w', _, rfl, h'4⟩ := spN_i h'3
  obtain ⟨rfl, h'n⟩ := spN_nil h'4
  clear h h'0 h'1 h'2 h'3 h'4
  obtain ⟨l, d, fs, T, z, px, a0, a1, b0, b1, k⟩ := h'n
  · skip
    have hU := hr.units
    have hm := M_pos T.hw
    have hp := pw T.hw
    refine ⟨_, (pss_cons (ps_set (i := 5) sc__law_numbers.nd rfl (by first | exact Or.inl rfl | exact Or.inr rfl) (pe_op op_shl pe_int (pv 4)))
      (pss_cons (ps_set (i := 6) sc__law_numbers.nd rfl (by first | exact Or.inl rfl | exact Or.inr rfl) (pe_methC (m := "number") (k := 2) (pv 0) (hr.mono (by decide)) (pa_cons (pv 2) pa_nil)))
      (pss_cons (ps_set (i := 7) sc__law_numbers.nd rfl (by first | exact Or.inl rfl | exact Or.inr rfl) (pe_methC (m := "number") (k := 2) (pv 0) (hr.mono (by decide)) (pa_cons (pv 3) pa_nil)))
      (pss_cons (ps_if (PW.pt (pw_or (pt_cmpR op_ne (pe_methC (m := "number") (k := 2) (pv 0) (hr.mono (by decide)) (pa_cons (pe_op op_add (pv 2) (pv 5)) pa_nil)) (pv 6) (nomk _)) (pw_or1 (pt_cmpR op_ne (pe_methC (m := "number") (k := 2) (pv 0) (hr.mono (by decide)) (pa_cons (pe_op op_sub (pv 2) (pe_op op_mul pe_int (pv 5))) pa_nil)) (pv 6) (nomk _))))) (pss_one (ps_ret pe_bl)) pss_nil)
      (pss_cons (ps_if (pt_cmpR op_ne (pe_cmpR op_eq (pv 6) (pv 7) (nomk _)) (pe_cmpR op_eq (pv 2) (pv 3) (nomk _)) (nomk _)) (pss_one (ps_ret pe_bl)) pss_nil)
      (pss_cons (ps_if (pt_cmpR op_ne (pe_methC (m := "make") (k := 6) (pv 0) (hr.mono (by decide)) (pa_cons pe_str (pa_cons (pv 1) (pa_cons (pv 6) pa_nil)))) (pe_methC (m := "make") (k := 6) (pv 0) (hr.mono (by decide)) (pa_cons pe_str (pa_cons (pv 1) (pa_cons (pe_methC (m := "number") (k := 2) (pv 0) (hr.mono (by decide)) (pa_cons (pe_op op_sub pe_int (pv 2)) pa_nil)) pa_nil)))) (nomk _)) (pss_one (ps_ret pe_bl)) pss_nil)
      (pss_cons (ps_set (i := 8) sc__law_numbers.nd rfl (by first | exact Or.inl rfl | exact Or.inr rfl) (pe_methC (m := "make") (k := 6) (pv 0) (hr.mono (by decide)) (pa_cons pe_str (pa_cons (pv 1) (pa_cons (pe_methC (m := "number") (k := 2) (pv 0) (hr.mono (by decide)) (pa_cons (pe_op op_add (pv 2) (pv 3)) pa_nil)) pa_nil)))))
      (pss_cons (ps_if (pt_cmpR op_ne (pe_methC (m := "make") (k := 6) (pv 0) (hr.mono (by decide)) (pa_cons pe_str (pa_cons (pe_methC (m := "make") (k := 6) (pv 0) (hr.mono (by decide)) (pa_cons pe_str (pa_cons (pv 1) (pa_cons (pv 6) pa_nil)))) (pa_cons (pv 7) pa_nil)))) (pv 8) (nomk _)) (pss_one (ps_ret pe_bl)) pss_nil)
      (pss_cons (ps_set (i := 9) sc__law_numbers.nd rfl (by first | exact Or.inl rfl | exact Or.inr rfl) (pe_lstA (pa_cons (pe_methC (m := "make") (k := 6) (pv 0) (hr.mono (by decide)) (pa_cons pe_str (pa_cons (pv 6) (pa_cons (pv 7) pa_nil)))) (pa_cons (pe_methC (m := "make") (k := 6) (pv 0) (hr.mono (by decide)) (pa_cons pe_str (pa_cons (pv 6) (pa_cons (pv 7) pa_nil)))) (pa_cons (pe_methC (m := "make") (k := 6) (pv 0) (hr.mono (by decide)) (pa_cons pe_str (pa_cons (pv 6) (pa_cons (pv 7) pa_nil)))) pa_nil)))))
      (pss_cons (ps_set (i := 10) sc__law_numbers.nd rfl (by first | exact Or.inl rfl | exact Or.inr rfl) (pe_lstA (pa_cons (pe_methC (m := "number") (k := 2) (pv 0) (hr.mono (by decide)) (pa_cons (pe_op op_add (pv 2) (pv 3)) pa_nil)) (pa_cons (pe_methC (m := "number") (k := 2) (pv 0) (hr.mono (by decide)) (pa_cons (pe_op op_sub (pv 2) (pv 3)) pa_nil)) (pa_cons (pe_methC (m := "number") (k := 2) (pv 0) (hr.mono (by decide)) (pa_cons (pe_op op_and (pv 2) (pv 3)) pa_nil)) pa_nil)))))
      (pss_cons (ps_set (i := 9) sc__law_numbers.nd rfl (by first | exact Or.inl rfl | exact Or.inr rfl) (pe_op op_catA (pv 9) (pe_lstA (pa_cons (pe_methC (m := "make") (k := 6) (pv 0) (hr.mono (by decide)) (pa_cons pe_str (pa_cons (pv 6) (pa_cons (pv 7) pa_nil)))) (pa_cons (pe_methC (m := "make") (k := 6) (pv 0) (hr.mono (by decide)) (pa_cons pe_str (pa_cons (pv 6) (pa_cons (pv 7) pa_nil)))) (pa_cons (pe_methD (m := "make") (k := 6) (dvs := [.non]) (pv 0) (hr.mono (by decide)) (pa_cons pe_str (pa_cons (pv 6) pa_nil))) pa_nil))))))
      (pss_cons (ps_set (i := 10) sc__law_numbers.nd rfl (by first | exact Or.inl rfl | exact Or.inr rfl) (pe_op op_catA (pv 10) (pe_lstA (pa_cons (pe_methC (m := "number") (k := 2) (pv 0) (hr.mono (by decide)) (pa_cons (pe_op op_or (pv 2) (pv 3)) pa_nil)) (pa_cons (pe_methC (m := "number") (k := 2) (pv 0) (hr.mono (by decide)) (pa_cons (pe_op op_xor (pv 2) (pv 3)) pa_nil)) (pa_cons (pe_methC (m := "number") (k := 2) (pv 0) (hr.mono (by decide)) (pa_cons (pe_op op_sub (pe_op op_sub (pv 5) pe_int) (pv 2)) pa_nil)) pa_nil))))))
      (pss_cons (ps_set (i := 9) sc__law_numbers.nd rfl (by first | exact Or.inl rfl | exact Or.inr rfl) (pe_op op_catA (pv 9) (pe_lstA (pa_cons (pe_methD (m := "make") (k := 6) (dvs := [.non]) (pv 0) (hr.mono (by decide)) (pa_cons pe_str (pa_cons (pv 6) pa_nil))) (pa_cons (pe_methD (m := "make") (k := 6) (dvs := [.non]) (pv 0) (hr.mono (by decide)) (pa_cons pe_str (pa_cons (pv 6) pa_nil))) pa_nil)))))
      (pss_one (ps_ret (pe_cmpR (op_eqD hU) (pv 9) (pe_op op_catA (pv 10) (pe_lstA (pa_cons (pe_methC (m := "number") (k := 2) (pv 0) (hr.mono (by decide)) (pa_cons (pe_op op_mul pe_int (pv 2)) pa_nil)) (pa_cons (pe_methC (m := "number") (k := 2) (pv 0) (hr.mono (by decide)) (pa_cons (pe_op op_fdiv (pv 2) pe_int) pa_nil)) pa_nil)))) (nomk _))))))))))))))))), ?_⟩
    rw [st__law_numbers]
    walk_at "vz"
    refine ⟨⟨by omega, by omega⟩, ?_⟩
    refine cut mN T (t_num T (by omega) fun i1 H1 fs1 p1 T1 c1 => ?_)
    have e1 : At fs1 i1 (nu a) := p1.at2 (by rw [emod_in a0 a1])
    have le1 := p1.le
    walk_at "vz"
    refine cut mN T1 (t_num T1 (by omega) fun i2 H2 fs2 p2 T2 c2 => ?_)
    have E2 : E3 fs2 x i1 i2 a b := ⟨px.ex (p1.ex.trans p2.ex), e1.ex p2.ex, p2.at2 (by rw [emod_in b0 b1])⟩
    have le2 := p2.le
    walk_at "vz"
    refine cut mN T2 (t_num T2 (by omega) fun i3 H3 fs3 p3 T3 c3 => ?_)
    have e3 : i1 = i3 := p3.is T3.uq E2.e1 (by rw [Int.add_emod_right, emod_in a0 a1])
    subst e3
    have le3 := p3.le
    have E3' := E2.ex p3.ex
    walk_at "vz"
    refine cut mN T3 (t_num T3 (by omega) fun i4 H4 fs4 p4 T4 c4 => ?_)
    have e4 : i1 = i4 := p4.is T4.uq E3'.e1 (by rw [show a - 3 * M w' = a + -3 * M w' by omega, Int.add_mul_emod_self_right, emod_in a0 a1])
    subst e4
    have le4 := p4.le
    have E4 := E3'.ex p4.ex
    have ch4 : Chg l d H H4 := c1.trans (c2.trans (c3.trans c4))
    have x4 : Ex fs fs4 := p1.ex.trans (p2.ex.trans (p3.ex.trans p4.ex))
    have e12 : decide (i1 = i2) = decide (a = b) := decide_eq_decide.mpr ⟨fun e => by have h1 := E4.e1.2; rw [e, E4.e2.2] at h1; simpa [nu] using h1.symm, fun e => T4.uq _ _ _ E4.e1 (e ▸ E4.e2)⟩
    walk_at "vz"
    rw [e12]
    walk_at "vz"
    refine cut mM T4 (t_mk2 T4 (by omega) (.inr (.inl rfl)) E4.px E4.e1.1 fun i5 H5 fs5 p5 T5 c5 => ?_)
    have le5 := p5.le
    have E5 := E4.ex p5.ex
    walk_at "vz"
    refine cut mM T5 (cut mN T5 (t_num T5 (by omega) fun i6 H6 fs6 p6 T6 c6 => ?_))
    have le6 := p6.le
    have E6 := E5.ex p6.ex
    refine t_mk2 T6 (by omega) (.inl rfl) E6.px p6.at_.1 fun i7 H7 fs7 p7 T7 c7 => ?_
    have le7 := p7.le
    have e7 : i5 = i7 := p7.is T7.uq (p5.at_.ex p6.ex) ((mk2_subadd T6.wf E6.px E6.e1.2 p6.at_.2).symm.trans (mk2_ex T4.wf (p5.ex.trans p6.ex) E4.px E4.e1.1))
    subst e7
    have E7 := E6.ex p7.ex
    have ch7 : Chg l d H H7 := ch4.trans (c5.trans (c6.trans c7))
    have x7 : Ex fs fs7 := x4.trans (p5.ex.trans (p6.ex.trans p7.ex))
    walk_at "vz"
    refine cut mM T7 (cut mN T7 (t_num T7 (by omega) fun i8 H8 fs8 p8 T8 c8 => ?_))
    have le8 := p8.le
    have E8 := E7.ex p8.ex
    refine t_mk2 T8 (by omega) (.inl rfl) E8.px p8.at_.1 fun i9 H9 fs9 p9 T9 c9 => ?_
    have le9 := p9.le
    have E9 := E8.ex p9.ex
    walk_at "vz"
    refine cut mM T9 (cut mM T9 (t_mk2 T9 (by omega) (.inl rfl) E9.px E9.e1.1 fun j1 I1 gs1 q1 U1 d1 => ?_))
    have ge1 := q1.le
    have F1 := E9.ex q1.ex
    refine t_mk2 U1 (by omega) (.inl rfl) q1.at_.1 F1.e2.1 fun j2 I2 gs2 q2 U2 d2 => ?_
    have ge2 := q2.le
    have e11 : i9 = j2 := q2.is U2.uq (p9.at_.ex q1.ex) ((mk2_addadd U1.wf U1.uq F1.px F1.e1.2 F1.e2.2 (p8.at_.ex (p9.ex.trans q1.ex)).2 (q1.at2 (mk2_ex T9.wf q1.ex E9.px E9.e1.1).symm)).trans (mk2_ex T8.wf (p9.ex.trans q1.ex) E8.px p8.at_.1))
    subst e11
    have F2 := F1.ex q2.ex
    have ch2 : Chg l d H I2 := ch7.trans (c8.trans (c9.trans (d1.trans d2)))
    have y2 : Ex fs gs2 := x7.trans (p8.ex.trans (p9.ex.trans (q1.ex.trans q2.ex)))
    walk_at "vz"
    refine cut mM U2 (t_mk2 U2 (by omega) (.inl rfl) F2.e1.1 F2.e2.1 fun f1 I3 gs3 q3 U3 d3 => ?_)
    have ge3 := q3.le
    have F3 := F2.ex q3.ex
    have A1 : At gs3 f1 (nu ((a + b) % M w')) := q3.at2 (mk2_nn F2.e1.2 F2.e2.2)
    refine cut mM U3 (t_mk2 U3 (by omega) (.inr (.inl rfl)) F3.e1.1 F3.e2.1 fun f2 I4 gs4 q4 U4 d4 => ?_)
    have ge4 := q4.le
    have F4 := F3.ex q4.ex
    have A2 : At gs4 f2 (nu ((a - b) % M w')) := q4.at2 (mk2_nn F3.e1.2 F3.e2.2)
    refine cut mM U4 (t_mk2 U4 (by omega) (.inr (.inr (.inl rfl))) F4.e1.1 F4.e2.1 fun f3 I5 gs5 q5 U5 d5 => ?_)
    have ge5 := q5.le
    have F5 := F4.ex q5.ex
    have A3 : At gs5 f3 (nu (Builtin.bitAnd a b % M w')) := q5.at2 (mk2_nn F4.e1.2 F4.e2.2)
    intro r1 J1 m1
    have V1 := U5.same m1.same
    have nr1 := U5.ne m1.nw
    walk_at "vz"
    refine cut mN V1 (t_num V1 (by omega) fun g1 I6 gs6 q6 U6 d6 => ?_)
    have ge6 := q6.le
    have s1 : f1 = g1 := q6.is U6.uq (A1.ex (q4.ex.trans q5.ex)) rfl
    subst s1
    refine cut mN U6 (t_num U6 (by omega) fun g2 I7 gs7 q7 U7 d7 => ?_)
    have ge7 := q7.le
    have s2 : f2 = g2 := q7.is U7.uq (A2.ex (q5.ex.trans q6.ex)) rfl
    subst s2
    refine cut mN U7 (t_num U7 (by omega) fun g3 I8 gs8 q8 U8 d8 => ?_)
    have ge8 := q8.le
    have s3 : f3 = g3 := q8.is U8.uq (A3.ex (q6.ex.trans q7.ex)) rfl
    subst s3
    have F8 := F5.ex (q6.ex.trans (q7.ex.trans q8.ex))
    intro r2 J2 m2
    have V2 := U8.same m2.same
    have nr2 := U8.ne m2.nw
    walk_at "vz"
    refine cut mM V2 (t_mk2 V2 (by omega) (.inr (.inr (.inr (.inl rfl)))) F8.e1.1 F8.e2.1 fun f4 I9 gs9 q9 U9 d9 => ?_)
    have ge9 := q9.le
    have F9 := F8.ex q9.ex
    have A4 : At gs9 f4 (nu (Builtin.bitOr a b % M w')) := q9.at2 (mk2_nn F8.e1.2 F8.e2.2)
    refine cut mM U9 (t_mk2 U9 (by omega) (.inr (.inr (.inr (.inr rfl)))) F9.e1.1 F9.e2.1 fun f5 K1 hs1 u1 X1 n1 => ?_)
    have he1 := u1.le
    have G1 := F9.ex u1.ex
    have A5 : At hs1 f5 (nu (Builtin.bitXor a b % M w')) := u1.at2 (mk2_nn F9.e1.2 F9.e2.2)
    refine cutD mD X1 (t_mk1 X1 (by omega) (.inl rfl) G1.e1.1 fun f6 K2 hs2 u2 X2 n2 => ?_)
    have he2 := u2.le
    have G2 := G1.ex u2.ex
    have A6 : At hs2 f6 (nu ((-1 - a) % M w')) := u2.at2 (mk1_n G1.e1.2)
    intro r3 J3 m3
    have cJ13 : Chg l d J1 J3 := d6.trans (d7.trans (d8.trans ((Chg.of m2.same).trans (d9.trans (n1.trans (n2.trans (Chg.of m3.same)))))))
    refine ⟨_, _, cJ13 _ _ nr1.1 nr1.2 m1.at', m3.at', by simp, fun r4 J4 m4 => ?_⟩
    have V4 := X2.same (m3.same.trans m4.same)
    have nr4 := (X2.same m3.same).ne m4.nw
    walk_at "vz"
    refine cut mN V4 (t_num V4 (by omega) fun g4 K3 hs3 u3 X3 n3 => ?_)
    have he3 := u3.le
    have s4 : f4 = g4 := u3.is X3.uq (A4.ex (u1.ex.trans u2.ex)) rfl
    subst s4
    refine cut mN X3 (t_num X3 (by omega) fun g5 K4 hs4 u4 X4 n4 => ?_)
    have he4 := u4.le
    have s5 : f5 = g5 := u4.is X4.uq (A5.ex (u2.ex.trans u3.ex)) rfl
    subst s5
    refine cut mN X4 (t_num X4 (by omega) fun g6 K5 hs5 u5 X5 n5 => ?_)
    have he5 := u5.le
    have s6 : f6 = g6 := u5.is X5.uq (A6.ex (u3.ex.trans u4.ex)) (by rw [show M w' - 1 - a = (-1 - a) + M w' by omega, Int.add_emod_right])
    subst s6
    have G5 := G2.ex (u3.ex.trans (u4.ex.trans u5.ex))
    intro r5 J5 m5
    have cJ25 : Chg l d J2 J5 := d9.trans (n1.trans (n2.trans ((Chg.of (m3.same.trans m4.same)).trans (n3.trans (n4.trans (n5.trans (Chg.of m5.same)))))))
    refine ⟨_, _, cJ25 _ _ nr2.1 nr2.2 m2.at', m5.at', by simp, fun r6 J6 m6 => ?_⟩
    have V6 := X5.same (m5.same.trans m6.same)
    have nr6 := (X5.same m5.same).ne m6.nw
    walk_at "vz"
    refine cutD mD V6 (t_mk1 V6 (by omega) (.inr (.inl rfl)) G5.e1.1 fun f7 K6 hs6 u6 X6 n6 => ?_)
    have he6 := u6.le
    have G6 := G5.ex u6.ex
    have A7 : At hs6 f7 (nu ((a + a) % M w')) := u6.at2 (mk1_n G5.e1.2)
    refine cutD mD X6 (t_mk1 X6 (by omega) (.inr (.inr rfl)) G6.e1.1 fun f8 K7 hs7 u7 X7 n7 => ?_)
    have he7 := u7.le
    have A8 : At hs7 f8 (nu (a / 2 % M w')) := u7.at2 (mk1_n G6.e1.2)
    intro r7 J7 m7
    have cJ47 : Chg l d J4 J7 := n3.trans (n4.trans (n5.trans ((Chg.of (m5.same.trans m6.same)).trans (n6.trans (n7.trans (Chg.of m7.same))))))
    refine ⟨_, _, cJ47 _ _ nr4.1 nr4.2 m4.at', m7.at', by simp, fun r8 J8 m8 => ?_⟩
    have V8 := X7.same (m7.same.trans m8.same)
    have nr8 := (X7.same m7.same).ne m8.nw
    walk_at "vz"
    refine cut mN V8 (t_num V8 (by omega) fun g7 K8 hs8 u8 X8 n8 => ?_)
    have he8 := u8.le
    have s7 : f7 = g7 := u8.is X8.uq (A7.ex u7.ex) (by rw [show 2 * a = a + a by omega])
    subst s7
    refine cut mN X8 (t_num X8 (by omega) fun g8 K9 hs9 u9 X9 n9 => ?_)
    have he9 := u9.le
    have s8 : f8 = g8 := u9.is X9.uq (A8.ex u8.ex) rfl
    subst s8
    intro r9 J9 m9
    have cJ69 : Chg l d J6 J9 := n6.trans (n7.trans ((Chg.of (m7.same.trans m8.same)).trans (n8.trans (n9.trans (Chg.of m9.same)))))
    have cJ89 : Chg l d J8 J9 := n8.trans (n9.trans (Chg.of m9.same))
    refine ⟨_, _, cJ69 _ _ nr6.1 nr6.2 m6.at', m9.at', by simp, fun ra Ja ma => ?_⟩
    refine eqL (ns := [f1, f2, f3, f4, f5, f6, f7, f8]) (ma.same _ _ (cJ89 _ _ nr8.1 nr8.2 m8.at')) ma.at' ?_
    refine k Ja hs9 (y2.trans (q3.ex.trans (q4.ex.trans (q5.ex.trans (q6.ex.trans (q7.ex.trans (q8.ex.trans (q9.ex.trans (u1.ex.trans (u2.ex.trans (u3.ex.trans (u4.ex.trans (u5.ex.trans (u6.ex.trans (u7.ex.trans (u8.ex.trans u9.ex)))))))))))))))) (by omega) (X9.same (m9.same.trans ma.same)) ?_
    exact ch2.trans (d3.trans (d4.trans (d5.trans ((Chg.of m1.same).trans (cJ13.trans ((Chg.of m4.same).trans (cJ47.trans ((Chg.of m8.same).trans (cJ89.trans (Chg.of ma.same))))))))))
end
def spLaw (K : PySem.W.Frag) : Sp := fun vs H Q _ => ∃ (a : Addr) (ns : List Int), vs = [.ref a] ∧ SqL K H a (ns.map V.int) ∧ ns.length ≤ 63 ∧ ∀ H', Q (.bl true) H'
theorem at_form {fs : List Fm} {i : Int} {f g : Fm} (h : At fs i f) (h' : At fs i g) : f = g := h.2.symm.trans h'.2
def ten : List Fm := [un "box" 0, un "box" 1, un "box" 2, un "box" 3, un "box" 4, un "box" 5, un "box" 6, un "box" 7, un "got" 0, un "bits" 0]
theorem eight {is : List Int} (h : is.length = 8) : ∃ a b c d e f g i, is = [a, b, c, d, e, f, g, i] := by
  match is, h with
  | [a, b, c, d, e, f, g, i], _ => exact ⟨a, b, c, d, e, f, g, i, rfl⟩
theorem ten_nodup {fs : List Fm} {is : List Int} {g h : Int} (hl : is.length = 8) (hi : ∀ (j : Nat) (v : Int), is[j]? = some v → At fs v (un "box" (0 + (j : Int)))) (hg : At fs g (un "got" 0)) (hh : At fs h (un "bits" 0)) : (is ++ [g, h]).Nodup := by
  have e : (is ++ [g, h]).map (fa fs) = ten := by
    obtain ⟨a, b, c, d, e, f, x, y, rfl⟩ := eight hl
    have h0 := (hi 0 a rfl).2
    have h1 := (hi 1 b rfl).2
    have h2 := (hi 2 c rfl).2
    have h3 := (hi 3 d rfl).2
    have h4 := (hi 4 e rfl).2
    have h5 := (hi 5 f rfl).2
    have h6 := (hi 6 x rfl).2
    have h7 := (hi 7 y rfl).2
    show [fa fs a, fa fs b, fa fs c, fa fs d, fa fs e, fa fs f, fa fs x, fa fs y, fa fs g, fa fs h] = ten
    rw [h0, h1, h2, h3, h4, h5, h6, h7, hg.2, hh.2]
    rfl
  have nd : ((is ++ [g, h]).map (fa fs)).Nodup := by rw [e]; decide +kernel
  exact List.Pairwise.of_map (fa fs) (fun a b h z => h (by rw [z])) nd
section
variable {P : Program} {w : World} {K : PySem.W.Frag} {mg : Str → Option Value} {base : Heap} {f C : Addr} {fd : FuncData}
theorem ok_law (F : Fun K "law" "law" s_law f fd) (B : Bls mg) (c_Terms : KCal P w K mg base "Terms" C 1 (sp_tinit C)) (c__law_cell_at : Cal P w K mg base "_law_cell_at" 1 ["_law_script", "_law_k"] (sp_celx K)) (c__law_number : Cal P w K mg base "_law_number" 3 ["_law_cell", "_law_k", "_law_width"] sp_nbd)
    (c__law_term : Cal P w K mg base "_law_term" 7 ["_law_terms", "_law_cell", "_law_width"] (sp_lterm C)) (c__law_nothing_done : Cal P w K mg base "_law_nothing_done" 7 ["_law_terms", "_law_x"] (sp_lnd C)) (c__law_nought : Cal P w K mg base "_law_nought" 7 ["_law_terms", "_law_x"] (sp_lnd C))
    (c__law_numbers : Cal P w K mg base "_law_numbers" 7 ["_law_terms", "_law_x", "_law_first", "_law_second", "_law_width"] (sp_lns C)) (mU : MCal P w K mg base C "unknown" 2 (sp_unk C)) (mM : MCal P w K mg base C "make" 6 (sp_make C)) : FnOk P w K mg base CX0 8 f fd ["_law_script"] (spLaw K) := by
  refine F.ok sc_law (fun vs H Q E h => by obtain ⟨_, _, rfl, _⟩ := h; rfl) (fun cdv A outer s H vs Q E hr h => ?_)
  obtain ⟨a, ns, rfl, hS, hlen, k⟩ := h
  have hU := hr.units
  refine ⟨_, (pss_cons (ps_set (i := 1) sc_law.nd rfl (by first | exact Or.inl rfl | exact Or.inr rfl) (pe_ix ix_list (pe_lstA (pa_cons pe_int (pa_cons pe_int (pa_cons pe_int pa_nil)))) (pe_op op_mod (pe_callC c__law_cell_at (hr.mono (by decide)) (pa_cons (pv 0) (pa_cons pe_int pa_nil))) pe_int) (fun _ _ => rfl)))
      (pss_cons (ps_set (i := 2) sc_law.nd rfl (by first | exact Or.inl rfl | exact Or.inr rfl) (pe_makeC c_Terms (hr.mono (by decide)) (pa_cons (pv 1) pa_nil)))
      (pss_cons (ps_set (i := 3) sc_law.nd rfl (by first | exact Or.inl rfl | exact Or.inr rfl) (pe_callC c__law_term (hr.mono (by decide)) (pa_cons (pv 2) (pa_cons (pe_callC c__law_cell_at (hr.mono (by decide)) (pa_cons (pv 0) (pa_cons pe_int pa_nil))) (pa_cons (pv 1) pa_nil)))))
      (pss_cons (ps_set (i := 4) sc_law.nd rfl (by first | exact Or.inl rfl | exact Or.inr rfl) (pe_callC c__law_term (hr.mono (by decide)) (pa_cons (pv 2) (pa_cons (pe_callC c__law_cell_at (hr.mono (by decide)) (pa_cons (pv 0) (pa_cons pe_int pa_nil))) (pa_cons (pv 1) pa_nil)))))
      (pss_cons (ps_if (pt_cmpR op_ne (pe_callC c__law_term (hr.mono (by decide)) (pa_cons (pv 2) (pa_cons (pe_callC c__law_cell_at (hr.mono (by decide)) (pa_cons (pv 0) (pa_cons pe_int pa_nil))) (pa_cons (pv 1) pa_nil)))) (pv 3) (nomk _)) (pss_one (ps_ret pe_bl)) pss_nil)
      (pss_cons (ps_for PassesOwn.never rfl (pi_tup (pe_tupA (pa_cons pe_str (pa_cons pe_str (pa_cons pe_str (pa_cons pe_str pa_nil)))))) (pg_name (i := 5) sc_law.nd rfl (by first | exact Or.inl rfl | exact Or.inr rfl)) (pss_one (ps_if (pt_cmpR op_ne (pe_methC (m := "make") (k := 6) (pv 2) (hr.mono (by decide)) (pa_cons (pv 5) (pa_cons (pv 3) (pa_cons (pv 4) pa_nil)))) (pe_methC (m := "make") (k := 6) (pv 2) (hr.mono (by decide)) (pa_cons (pv 5) (pa_cons (pv 4) (pa_cons (pv 3) pa_nil)))) (nomk _)) (pss_one (ps_ret pe_bl)) pss_nil)))
      (pss_cons (ps_if (PW.pt (pw_or (pt_not (pt_val (pe_callC c__law_nothing_done (hr.mono (by decide)) (pa_cons (pv 2) (pa_cons (pv 3) pa_nil))))) (pw_or1 (pt_not (pt_val (pe_callC c__law_nought (hr.mono (by decide)) (pa_cons (pv 2) (pa_cons (pv 4) pa_nil)))))))) (pss_one (ps_ret pe_bl)) pss_nil)
      (pss_cons (ps_set (i := 6) sc_law.nd rfl (by first | exact Or.inl rfl | exact Or.inr rfl) (pe_callC c__law_number (hr.mono (by decide)) (pa_cons (pe_callC c__law_cell_at (hr.mono (by decide)) (pa_cons (pv 0) (pa_cons pe_int pa_nil))) (pa_cons pe_int (pa_cons (pv 1) pa_nil)))))
      (pss_cons (ps_set (i := 7) sc_law.nd rfl (by first | exact Or.inl rfl | exact Or.inr rfl) (pe_callC c__law_number (hr.mono (by decide)) (pa_cons (pe_callC c__law_cell_at (hr.mono (by decide)) (pa_cons (pv 0) (pa_cons pe_int pa_nil))) (pa_cons pe_int (pa_cons (pv 1) pa_nil)))))
      (pss_cons (ps_if (pt_cmpR op_eq (pe_op op_mod (pe_callC c__law_cell_at (hr.mono (by decide)) (pa_cons (pv 0) (pa_cons pe_int pa_nil))) pe_int) pe_int (nomk _)) (pss_one (ps_set (i := 7) sc_law.nd rfl (by first | exact Or.inl rfl | exact Or.inr rfl) (pe_op op_mod (pe_op op_sub pe_int (pv 6)) (pe_op op_shl pe_int (pv 1))))) pss_nil)
      (pss_cons (ps_if (pt_not (pt_val (pe_callC c__law_numbers (hr.mono (by decide)) (pa_cons (pv 2) (pa_cons (pv 3) (pa_cons (pv 6) (pa_cons (pv 7) (pa_cons (pv 1) pa_nil)))))))) (pss_one (ps_ret pe_bl)) pss_nil)
      (pss_cons (ps_set (i := 8) sc_law.nd rfl (by first | exact Or.inl rfl | exact Or.inr rfl) (pe_op op_catA (pe_comp rfl (BlkOk.ofS (tn := ["_law_k"]) (M := ["_law_script", "_law_width", "_law_terms", "_law_x", "_law_y", "_law_word", "_law_first", "_law_second", "_law_unknown"]) (N := ["_law_script", "_law_width", "_law_terms", "_law_x", "_law_y", "_law_word", "_law_first", "_law_second", "_law_unknown"]) (sc := defScope s_law) rfl rfl rfl (by decide +kernel)) (pi_range1 rfl B.range (pa_cons pe_int pa_nil)) (fun _ _ _ _ => (pg_name (i := 0) (show List.Nodup ((["_law_k"] : List Str) ++ (["_law_script", "_law_width", "_law_terms", "_law_x", "_law_y", "_law_word", "_law_first", "_law_second", "_law_unknown"] : List Str)) by decide +kernel) rfl (by first | exact Or.inl rfl | exact Or.inr rfl))) (fun _ _ _ _ => pts_nil) (fun _ _ _ _ => (pe_methCB (m := "unknown") (k := 2) (pv 3) (hr.mono (by decide)) (pa_cons pe_str (pa_cons (pv 0) pa_nil))))) (pe_lstA (pa_cons (pe_methC (m := "unknown") (k := 2) (pv 2) (hr.mono (by decide)) (pa_cons pe_str (pa_cons pe_int pa_nil))) (pa_cons (pe_methC (m := "unknown") (k := 2) (pv 2) (hr.mono (by decide)) (pa_cons pe_str (pa_cons pe_int pa_nil))) pa_nil)))))
      (pss_one (ps_ret (pe_and (pe_cmpR op_eq (pe_lenSet rfl rfl B.len B.set rfl (pa_cons (pv 8) pa_nil)) pe_int (nomk _)) (pe_one (pe_cmpR op_eq (pe_methC (m := "unknown") (k := 2) (pv 2) (hr.mono (by decide)) (pa_cons pe_str (pa_cons pe_int pa_nil))) (pe_ix ix_list (pv 8) pe_int (fun _ _ => rfl)) (nomk _)))))))))))))))))), ?_⟩
  rw [st_law]
  walk_at "vz"
  refine fun p1 H1 n1 => ⟨ns, n1.same.seq hS, ?_⟩
  obtain ⟨wd, hw, ew⟩ := pick3 (cel ns 0)
  have hm := M_pos hw
  have hp := pw hw
  refine ⟨_, _, SqL.of n1.at', ew, ?_⟩
  walk_at "vz"
  have hS1 := n1.same.seq hS
  refine fun t dx H2 n2 => ⟨hw, dx, n2.at', fun H3 l d s3 T3 fl fd => ?_⟩
  have S0 : Same H1 H3 := fun b o e => s3 b o (ne_of_none e n2.nx) (n2.same b o e)
  have fl1 : H1 l = none := n2.same.free fl
  have fd1 : H1 d = none := n2.same.free fd
  walk_at "vz"
  refine ⟨ns, S0.seq hS1, l, d, [], T3, by decide, fun x H4 fs4 x4 le4 T4 c4 i4 px4 => ?_⟩
  have S4 := same_chg S0 fl1 fd1 c4
  replace le4 : fs4.length ≤ 5 := by simpa using le4
  walk_at "vz"
  refine ⟨ns, S4.seq hS1, l, d, fs4, T4, by omega, fun y H5 fs5 x5 le5 T5 c5 i5 py5 => ?_⟩
  have S5 := same_chg S4 fl1 fd1 c5
  walk_at "vz"
  refine ⟨ns, S5.seq hS1, l, d, fs5, T5, by omega, fun x' H6 fs6 x6 le6 T6 c6 i6 px6 => ?_⟩
  have ex : x = x' := (Is.uniq T4.wf (x5.trans x6) T6.uq i4 i6).symm
  subst ex
  have S6 := same_chg S5 fl1 fd1 c6
  have py6 := py5.ex x6
  walk_at "vz"
  intro pt H7 n7
  have npt := T6.ne n7.nw
  refine ⟨⟨_, SqT.of n7.at'⟩, ?_⟩
  refine for_tup (K := K) (a := pt) (xs := [.str "add", .str "and", .str "or", .str "xor"]) (fun i σ H' => ∃ v, σ = [some (.ref a), some (.int wd), some (.ref t), some (.int x), some (.int y), v, none, none, none] ∧ ∃ fs', Tb H' C t wd l d fs' ∧ Ex fs6 fs' ∧ fs'.length ≤ fs6.length + 2 * i ∧ Chg l d H7 H')
    ⟨_, rfl, fs6, T6.same n7.same, Ex.refl _, by omega, fun _ _ _ _ e => e⟩ (fun i σ H' _ h => ?_) ?_ ?_
  · obtain ⟨_, _, fs', T', e', le', c'⟩ := h
    exact SqT.of (c' _ _ npt.1 npt.2 n7.at')
  · rintro i v σ H' hi ⟨v5, rfl, fs', T', e', le', c'⟩
    have hv : i < 4 ∧ ∃ x, v = .str x ∧ (x = "add" ∨ x = "and" ∨ x = "or" ∨ x = "xor") := by
      match i, hi with
      | 0, hi => exact ⟨by omega, _, (Option.some.inj hi).symm, .inl rfl⟩
      | 1, hi => exact ⟨by omega, _, (Option.some.inj hi).symm, .inr (.inl rfl)⟩
      | 2, hi => exact ⟨by omega, _, (Option.some.inj hi).symm, .inr (.inr (.inl rfl))⟩
      | 3, hi => exact ⟨by omega, _, (Option.some.inj hi).symm, .inr (.inr (.inr rfl))⟩
      | n + 4, hi => exact nomatch hi
    obtain ⟨h4, wo, rfl, hwo⟩ := hv
    have hw2 : W2 wo := w2_b hwo
    have px' := px6.ex e'
    have py' := py6.ex e'
    walk_at "vz"
    refine cut mM T' (t_mk2 T' (by omega) hw2 px' py' fun j1 I1 gs1 q1 U1 d1 => ?_)
    have ge1 := q1.le
    walk_at "vz"
    refine cut mM U1 (t_mk2 U1 (by omega) hw2 (py'.ex q1.ex) (px'.ex q1.ex) fun j2 I2 gs2 q2 U2 d2 => ?_)
    have ge2 := q2.le
    have e : j1 = j2 := q2.is U2.uq q1.at_ ((mk2_comm U1.wf hwo (py'.ex q1.ex) (px'.ex q1.ex)).trans (mk2_ex T'.wf q1.ex px' py'))
    subst e
    walk_at "vz"
    exact ⟨_, rfl, gs2, U2, e'.trans (q1.ex.trans q2.ex), by omega, c'.trans (d1.trans d2)⟩
  · rintro σ H8 ⟨v5, rfl, fs8, T8, e8, le8, c8⟩
    replace le8 : fs8.length ≤ fs6.length + 8 := le8
    have S8 := same_chg (S6.trans n7.same) fl1 fd1 c8
    walk_at "vz"
    refine ⟨wd, l, d, fs8, T8, by omega, px6.ex e8, fun H9 fs9 x9 le9 T9 c9 => ?_⟩
    have S9 := same_chg S8 fl1 fd1 c9
    walk_at "vz"
    refine ⟨wd, l, d, fs9, T9, by omega, (py6.ex e8).ex x9, fun J1 gs1 y1 ge1 U1 d1 => ?_⟩
    have R1 := same_chg S9 fl1 fd1 d1
    have px1 := ((px6.ex e8).ex x9).ex y1
    walk_at "vz"
    refine ⟨ns, R1.seq hS1, hw, fun J2 s2 => ?_⟩
    have R2 := R1.trans s2
    walk_at "vz"
    refine ⟨ns, R2.seq hS1, hw, fun J3 s3' => ?_⟩
    have R3 := R2.trans s3'
    walk_at "vz"
    refine ⟨ns, R3.seq hS1, ?_⟩
    walk_at "vz"
    obtain ⟨a0, a1⟩ := nbd_bd (c := cel ns 3) (k := 3) hw
    obtain ⟨b0, b1⟩ := nbd_bd (c := cel ns 4) (k := 4) hw
    have U3 := U1.same (s2.trans s3')
    generalize nbd (cel ns 3) 3 wd = fi at a0 a1 ⊢
    have bb : 0 ≤ nbd (cel ns 4) 4 wd ∧ nbd (cel ns 4) 4 wd < M wd := ⟨b0, b1⟩
    clear b0 b1
    revert bb
    generalize nbd (cel ns 4) 4 wd = se
    revert se
    apply shareV (p := fun u => 0 ≤ u ∧ u < M wd)
    · refine fun h r => ⟨⟨by omega, by omega⟩, hm, r _ ⟨Int.emod_nonneg _ (by omega), Int.emod_lt_of_pos _ hm⟩⟩
    refine fun u hu => ?_
    refine ⟨l, d, gs1, U3, by omega, px1, a0, a1, hu.1, hu.2, fun J4 gs4 y4 ge4 U4 d4 => ?_⟩
    walk_at "vz"
    refine compA_range (fun i vs σ' H' => ∃ is : List Int, vs = is.map V.int ∧ is.length = i ∧ (∃ b, σ' = b :: [some (.ref a), some (.int wd), some (.ref t), some (.int x), some (.int y), v5, some (.int fi), some (.int u), none]) ∧ ∃ fs', Tb H' C t wd l d fs' ∧ Ex gs4 fs' ∧ fs'.length ≤ gs4.length + i ∧ Chg l d J4 H' ∧ ∀ (j : Nat) (v : Int), is[j]? = some v → At fs' v (un "box" (0 + (j : Int))))
      ⟨[], rfl, rfl, ⟨none, rfl⟩, gs4, U4, Ex.refl _, by omega, fun _ _ _ _ e => e, fun j v h => nomatch h⟩ (by decide) (fun i vs σ H' h => by obtain ⟨is, rfl, hl, _⟩ := h; rw [List.length_map]; omega) ?_ ?_
    · rintro i vs σ' H' hi ⟨is, rfl, hl, ⟨b', rfl⟩, fs', T', e', le', c', hv⟩
      rw [Rd.g0, Rd.all, if_pos rfl]
      walk_at "vz"
      refine cut mU T' (t_unk T' (by omega) fun j I2 hs2 p2 T2 c2 => ?_)
      have le2 := p2.le
      refine ⟨is ++ [j], by rw [List.map_append]; rfl, by rw [List.length_append, hl]; rfl, ⟨_, rfl⟩, hs2, T2, e'.trans p2.ex, by omega, c'.trans c2, fun m v h => ?_⟩
      by_cases hm' : m < is.length
      · rw [List.getElem?_append_left hm'] at h
        exact (hv m v h).ex p2.ex
      · rw [List.getElem?_append_right (by omega)] at h
        have hz : m - is.length = 0 := by
          have := (List.getElem?_eq_some_iff.mp h).1
          simp at this
          omega
        rw [hz] at h
        have ej : j = v := by simpa using h
        have em : m = i := by omega
        subst ej em
        exact p2.at_
    · rintro vs σ' I4 ⟨is, rfl, hl, _, hs4, T4', e4', le4', c4', hv⟩ p5 J5 n5
      replace hl : is.length = 8 := hl
      replace le4' : hs4.length ≤ gs4.length + 8 := le4'
      have T5' := T4'.same n5.same
      have np5 := T4'.ne n5.nw
      walk_at "vz"
      refine cut mU T5' (t_unk T5' (by omega) fun g J6 hs6 p6 T6' c6' => ?_)
      have le6' := p6.le
      refine cut mU T6' (t_unk T6' (by omega) fun h J7 hs7 p7 T7' c7' => ?_)
      have le7' := p7.le
      intro p8 J8 n8
      refine ⟨_, _, (c6'.trans (c7'.trans (Chg.of n8.same))) _ _ np5.1 np5.2 n5.at', n8.at', by rw [List.length_map, hl]; show 8 + 2 ≤ 16777216; decide, fun p9 J9 n9 => ?_⟩
      have e9 : J9 p9 = some (.lst ((is ++ [g, h]).map V.int)) := by rw [n9.at', List.map_append]; rfl
      have T9' := T7'.same (n8.same.trans n9.same)
      have np9 := (T7'.same n8.same).ne n9.nw
      walk_at "vz"
      refine ⟨is ++ [g, h], SqL.of e9, by rw [List.length_append, hl]; show 8 + 2 < 64; decide, fun n hn => ?_⟩
      have en : n = 10 := by rw [hn (ten_nodup hl (fun j v hj => (hv j v hj).ex (p6.ex.trans p7.ex)) (p6.at_.ex p7.ex) p7.at_), List.length_append, hl]; rfl
      subst en
      walk_at "vz"
      refine ite2 (fun _ => ?_) (fun h => absurd rfl h)
      refine cut mU T9' (t_unk T9' (by omega) fun m I9 hs9 p9' U9 c9' => ?_)
      have e3 : At hs7 ((is ++ [g, h]).getD 3 0) (un "box" 3) := by
        obtain ⟨_, _, _, _, _, _, _, _, rfl⟩ := eight hl
        exact (hv 3 _ rfl).ex (p6.ex.trans p7.ex)
      have em : (is ++ [g, h]).getD (3 : Int).toNat 0 = m := p9'.is U9.uq e3 rfl
      refine ⟨_, _, SqL.of (c9' _ _ np9.1 np9.2 e9), atI_ints (k := 3) (by omega) (by rw [List.length_append, hl]; show (3 : Int) < 10; decide), ?_⟩
      rw [em]
      walk_at "vz"
      exact qb (k _) (by simp)
end
theorem cons_of {us : List Value} {n : Nat} (h : us.length = n + 1) : ∃ a l, us = a :: l ∧ l.length = n := by
  cases us with
  | nil => cases h
  | cons a l => exact ⟨a, l, rfl, Nat.succ.inj h⟩
theorem all_mk {l : PySem.W.OpenLaw} {w : World} {K : PySem.W.Frag} {h : Heap} {mg : Str → Option Value} {fa f0 f1 f2 f3 f4 f5 f6 f7 f8 f9 f10 f11 f12 f13 f14 f15 f16 f17 f18 f19 f20 f21 f22 f23 d_SPANS C_Terms : Addr} (X : K.In h) (G : h.Ns mainGlobals mg) (hfa : mg "law" = some (.ref fa))
    {od0 od1 od2 od3 od4 od5 od6 od7 od8 od9 od10 od11 od12 od13 od14 od15 od16 od17 od18 od19 od20 od21 od22 od23 an0 an1 an2 an3 an4 an5 an6 an7 an8 an9 an10 an11 an12 an13 an14 an15 an16 an17 an18 an19 an20 an21 an22 an23 : Option Addr} {sl0 sl1 sl2 sl3 sl4 sl5 sl6 sl7 sl8 sl9 sl10 sl11 sl12 sl13 sl14 sl15 sl16 sl17 sl18 sl19 sl20 sl21 sl22 sl23 : Array (Option Value)} {oc0 oc1 oc2 oc3 oc4 oc5 oc6 oc7 oc8 oc9 oc10 oc11 oc12 oc13 oc14 oc15 oc16 oc17 oc18 oc19 oc20 oc21 oc22 oc23 kV0 kV1 kV2 kV3 kV4 kV5 kV6 kV7 kV8 kV9 kV10 kV11 kV12 kV13 kV14 kV15 kV16 kV17 kV18 kV19 kV20 kV21 kV22 kV23 dc0 dc1 dc2 dc3 dc4 dc5 dc6 dc7 dc8 dc9 dc10 dc11 dc12 dc13 dc14 dc15 dc16 dc17 dc18 dc19 dc20 dc21 dc22 dc23 pm0 pm1 pm2 pm3 pm4 pm5 pm6 pm7 pm8 pm9 pm10 pm11 pm12 pm13 pm14 pm15 pm16 pm17 pm18 pm19 pm20 pm21 pm22 pm23 cd0 cd1 cd2 cd3 cd4 cd5 cd6 cd7 cd8 cd9 cd10 cd11 cd12 cd13 cd14 cd15 cd16 cd17 cd18 cd19 cd20 cd21 cd22 cd23 ct0 ct1 ct2 ct3 ct4 ct5 ct6 ct7 ct8 ct9 ct10 ct11 ct12 ct13 ct14 ct15 ct16 ct17 ct18 ct19 ct20 ct21 ct22 ct23 : Value}
    {es_SPANS : Array DictEntry} {n_SPANS : Nat}
    (ca_Terms : PySem.W.nsIn K mainGlobals "Terms" = some (some (.ref C_Terms)))
    {dT14 : Addr} {dt14 : Option Addr} {dn14 : Nat} {dz14 : Array (Option Value)}
    (a0 : PySem.W.nsIn K mainGlobals "fit" = some (some (.ref f0))) (l0 : K.lookup f0 = some ⟨oc0, od0, .func (PySem.W.fnOf "fit" "fit" (defArgs s_fit) (defBody s_fit) (defScope s_fit) .none kV0 dc0 pm0 an0 cd0 ct0), sl0⟩) (c0 : PySem.W.codeIn K cd0 "fit" = true) (k0 : PySem.W.keepIn K (.ref f0) = true)
    (a1 : PySem.W.nsIn K mainGlobals "unfitted_of_two" = some (some (.ref f1))) (l1 : K.lookup f1 = some ⟨oc1, od1, .func (PySem.W.fnOf "unfitted_of_two" "unfitted_of_two" (defArgs s_unfitted_of_two) (defBody s_unfitted_of_two) (defScope s_unfitted_of_two) .none kV1 dc1 pm1 an1 cd1 ct1), sl1⟩) (c1 : PySem.W.codeIn K cd1 "unfitted_of_two" = true) (k1 : PySem.W.keepIn K (.ref f1) = true)
    (a2 : PySem.W.nsIn K mainGlobals "unfitted" = some (some (.ref f2))) (l2 : K.lookup f2 = some ⟨oc2, od2, .func (PySem.W.fnOf "unfitted" "unfitted" (defArgs s_unfitted) (defBody s_unfitted) (defScope s_unfitted) .none kV2 dc2 pm2 an2 cd2 ct2), sl2⟩) (c2 : PySem.W.codeIn K cd2 "unfitted" = true) (k2 : PySem.W.keepIn K (.ref f2) = true)
    (a3 : PySem.W.nsIn K mainGlobals "reckoned" = some (some (.ref f3))) (l3 : K.lookup f3 = some ⟨oc3, od3, .func (PySem.W.fnOf "reckoned" "reckoned" (defArgs s_reckoned) (defBody s_reckoned) (defScope s_reckoned) .none kV3 dc3 pm3 an3 cd3 ct3), sl3⟩) (c3 : PySem.W.codeIn K cd3 "reckoned" = true) (k3 : PySem.W.keepIn K (.ref f3) = true)
    (a4 : PySem.W.findIn K (.ref C_Terms) "__init__" = some (some (.ref f4))) (l4 : K.lookup f4 = some ⟨oc4, od4, .func (PySem.W.fnOf "__init__" "Terms.__init__" (defArgs s_Terms___init__) (defBody s_Terms___init__) (defScope s_Terms___init__) .none kV4 dc4 pm4 an4 cd4 ct4), sl4⟩) (c4 : PySem.W.codeIn K cd4 "Terms.__init__" = true) (k4 : PySem.W.keepIn K (.ref f4) = true)
    (a5 : PySem.W.findIn K (.ref C_Terms) "term_of" = some (some (.ref f5))) (l5 : K.lookup f5 = some ⟨oc5, od5, .func (PySem.W.fnOf "term_of" "Terms.term_of" (defArgs s_Terms_term_of) (defBody s_Terms_term_of) (defScope s_Terms_term_of) .none kV5 dc5 pm5 an5 cd5 ct5), sl5⟩) (c5 : PySem.W.codeIn K cd5 "Terms.term_of" = true) (k5 : PySem.W.keepIn K (.ref f5) = true)
    (a6 : PySem.W.findIn K (.ref C_Terms) "number" = some (some (.ref f6))) (l6 : K.lookup f6 = some ⟨oc6, od6, .func (PySem.W.fnOf "number" "Terms.number" (defArgs s_Terms_number) (defBody s_Terms_number) (defScope s_Terms_number) .none kV6 dc6 pm6 an6 cd6 ct6), sl6⟩) (c6 : PySem.W.codeIn K cd6 "Terms.number" = true) (k6 : PySem.W.keepIn K (.ref f6) = true)
    (a7 : PySem.W.findIn K (.ref C_Terms) "unknown" = some (some (.ref f7))) (l7 : K.lookup f7 = some ⟨oc7, od7, .func (PySem.W.fnOf "unknown" "Terms.unknown" (defArgs s_Terms_unknown) (defBody s_Terms_unknown) (defScope s_Terms_unknown) .none kV7 dc7 pm7 an7 cd7 ct7), sl7⟩) (c7 : PySem.W.codeIn K cd7 "Terms.unknown" = true) (k7 : PySem.W.keepIn K (.ref f7) = true)
    (a8 : PySem.W.findIn K (.ref C_Terms) "is_known" = some (some (.ref f8))) (l8 : K.lookup f8 = some ⟨oc8, od8, .func (PySem.W.fnOf "is_known" "Terms.is_known" (defArgs s_Terms_is_known) (defBody s_Terms_is_known) (defScope s_Terms_is_known) .none kV8 dc8 pm8 an8 cd8 ct8), sl8⟩) (c8 : PySem.W.codeIn K cd8 "Terms.is_known" = true) (k8 : PySem.W.keepIn K (.ref f8) = true)
    (a9 : PySem.W.findIn K (.ref C_Terms) "known" = some (some (.ref f9))) (l9 : K.lookup f9 = some ⟨oc9, od9, .func (PySem.W.fnOf "known" "Terms.known" (defArgs s_Terms_known) (defBody s_Terms_known) (defScope s_Terms_known) .none kV9 dc9 pm9 an9 cd9 ct9), sl9⟩) (c9 : PySem.W.codeIn K cd9 "Terms.known" = true) (k9 : PySem.W.keepIn K (.ref f9) = true)
    (a10 : PySem.W.findIn K (.ref C_Terms) "form_of_one" = some (some (.ref f10))) (l10 : K.lookup f10 = some ⟨oc10, od10, .func (PySem.W.fnOf "form_of_one" "Terms.form_of_one" (defArgs s_Terms_form_of_one) (defBody s_Terms_form_of_one) (defScope s_Terms_form_of_one) .none kV10 dc10 pm10 an10 cd10 ct10), sl10⟩) (c10 : PySem.W.codeIn K cd10 "Terms.form_of_one" = true) (k10 : PySem.W.keepIn K (.ref f10) = true)
    (a11 : PySem.W.findIn K (.ref C_Terms) "form_of_plus" = some (some (.ref f11))) (l11 : K.lookup f11 = some ⟨oc11, od11, .func (PySem.W.fnOf "form_of_plus" "Terms.form_of_plus" (defArgs s_Terms_form_of_plus) (defBody s_Terms_form_of_plus) (defScope s_Terms_form_of_plus) .none kV11 dc11 pm11 an11 cd11 ct11), sl11⟩) (c11 : PySem.W.codeIn K cd11 "Terms.form_of_plus" = true) (k11 : PySem.W.keepIn K (.ref f11) = true)
    (a12 : PySem.W.findIn K (.ref C_Terms) "form_with_number" = some (some (.ref f12))) (l12 : K.lookup f12 = some ⟨oc12, od12, .func (PySem.W.fnOf "form_with_number" "Terms.form_with_number" (defArgs s_Terms_form_with_number) (defBody s_Terms_form_with_number) (defScope s_Terms_form_with_number) .none kV12 dc12 pm12 an12 cd12 ct12), sl12⟩) (c12 : PySem.W.codeIn K cd12 "Terms.form_with_number" = true) (k12 : PySem.W.keepIn K (.ref f12) = true)
    (a13 : PySem.W.findIn K (.ref C_Terms) "form_of_two" = some (some (.ref f13))) (l13 : K.lookup f13 = some ⟨oc13, od13, .func (PySem.W.fnOf "form_of_two" "Terms.form_of_two" (defArgs s_Terms_form_of_two) (defBody s_Terms_form_of_two) (defScope s_Terms_form_of_two) .none kV13 dc13 pm13 an13 cd13 ct13), sl13⟩) (c13 : PySem.W.codeIn K cd13 "Terms.form_of_two" = true) (k13 : PySem.W.keepIn K (.ref f13) = true)
    (a14 : PySem.W.findIn K (.ref C_Terms) "make" = some (some (.ref f14))) (l14 : K.lookup f14 = some ⟨oc14, od14, .func (PySem.W.fnOf "make" "Terms.make" (defArgs s_Terms_make) (defBody s_Terms_make) (defScope s_Terms_make) (.ref dT14) kV14 dc14 pm14 an14 cd14 ct14), sl14⟩) (c14 : PySem.W.codeIn K cd14 "Terms.make" = true) (k14 : PySem.W.keepIn K (.ref f14) = true)
    (dl14 : K.lookup dT14 = some ⟨.type "tuple", dt14, .seq #[.none] dn14, dz14⟩)
    (a15 : PySem.W.nsIn K mainGlobals "_law_cell_at" = some (some (.ref f15))) (l15 : K.lookup f15 = some ⟨oc15, od15, .func (PySem.W.fnOf "_law_cell_at" "_law_cell_at" (defArgs s__law_cell_at) (defBody s__law_cell_at) (defScope s__law_cell_at) .none kV15 dc15 pm15 an15 cd15 ct15), sl15⟩) (c15 : PySem.W.codeIn K cd15 "_law_cell_at" = true) (k15 : PySem.W.keepIn K (.ref f15) = true)
    (a16 : PySem.W.nsIn K mainGlobals "_law_is_row" = some (some (.ref f16))) (l16 : K.lookup f16 = some ⟨oc16, od16, .func (PySem.W.fnOf "_law_is_row" "_law_is_row" (defArgs s__law_is_row) (defBody s__law_is_row) (defScope s__law_is_row) .none kV16 dc16 pm16 an16 cd16 ct16), sl16⟩) (c16 : PySem.W.codeIn K cd16 "_law_is_row" = true) (k16 : PySem.W.keepIn K (.ref f16) = true)
    (a17 : PySem.W.nsIn K mainGlobals "_law_mixed" = some (some (.ref f17))) (l17 : K.lookup f17 = some ⟨oc17, od17, .func (PySem.W.fnOf "_law_mixed" "_law_mixed" (defArgs s__law_mixed) (defBody s__law_mixed) (defScope s__law_mixed) .none kV17 dc17 pm17 an17 cd17 ct17), sl17⟩) (c17 : PySem.W.codeIn K cd17 "_law_mixed" = true) (k17 : PySem.W.keepIn K (.ref f17) = true)
    (a18 : PySem.W.nsIn K mainGlobals "_law_number" = some (some (.ref f18))) (l18 : K.lookup f18 = some ⟨oc18, od18, .func (PySem.W.fnOf "_law_number" "_law_number" (defArgs s__law_number) (defBody s__law_number) (defScope s__law_number) .none kV18 dc18 pm18 an18 cd18 ct18), sl18⟩) (c18 : PySem.W.codeIn K cd18 "_law_number" = true) (k18 : PySem.W.keepIn K (.ref f18) = true)
    (a19 : PySem.W.nsIn K mainGlobals "_law_term" = some (some (.ref f19))) (l19 : K.lookup f19 = some ⟨oc19, od19, .func (PySem.W.fnOf "_law_term" "_law_term" (defArgs s__law_term) (defBody s__law_term) (defScope s__law_term) .none kV19 dc19 pm19 an19 cd19 ct19), sl19⟩) (c19 : PySem.W.codeIn K cd19 "_law_term" = true) (k19 : PySem.W.keepIn K (.ref f19) = true)
    (a20 : PySem.W.nsIn K mainGlobals "_law_nothing_done" = some (some (.ref f20))) (l20 : K.lookup f20 = some ⟨oc20, od20, .func (PySem.W.fnOf "_law_nothing_done" "_law_nothing_done" (defArgs s__law_nothing_done) (defBody s__law_nothing_done) (defScope s__law_nothing_done) .none kV20 dc20 pm20 an20 cd20 ct20), sl20⟩) (c20 : PySem.W.codeIn K cd20 "_law_nothing_done" = true) (k20 : PySem.W.keepIn K (.ref f20) = true)
    (a21 : PySem.W.nsIn K mainGlobals "_law_nought" = some (some (.ref f21))) (l21 : K.lookup f21 = some ⟨oc21, od21, .func (PySem.W.fnOf "_law_nought" "_law_nought" (defArgs s__law_nought) (defBody s__law_nought) (defScope s__law_nought) .none kV21 dc21 pm21 an21 cd21 ct21), sl21⟩) (c21 : PySem.W.codeIn K cd21 "_law_nought" = true) (k21 : PySem.W.keepIn K (.ref f21) = true)
    (a22 : PySem.W.nsIn K mainGlobals "_law_numbers" = some (some (.ref f22))) (l22 : K.lookup f22 = some ⟨oc22, od22, .func (PySem.W.fnOf "_law_numbers" "_law_numbers" (defArgs s__law_numbers) (defBody s__law_numbers) (defScope s__law_numbers) .none kV22 dc22 pm22 an22 cd22 ct22), sl22⟩) (c22 : PySem.W.codeIn K cd22 "_law_numbers" = true) (k22 : PySem.W.keepIn K (.ref f22) = true)
    (a23 : PySem.W.nsIn K mainGlobals "law" = some (some (.ref f23))) (l23 : K.lookup f23 = some ⟨oc23, od23, .func (PySem.W.fnOf "law" "law" (defArgs s_law) (defBody s_law) (defScope s_law) .none kV23 dc23 pm23 an23 cd23 ct23), sl23⟩) (c23 : PySem.W.codeIn K cd23 "law" = true) (k23 : PySem.W.keepIn K (.ref f23) = true)
    {t_WORDS_OF_ONE : Addr} {ti_WORDS_OF_ONE : Array Value} {tn_WORDS_OF_ONE : Nat} {to_WORDS_OF_ONE : Option Addr} {ts_WORDS_OF_ONE : Array (Option Value)}
    (ta_WORDS_OF_ONE : PySem.W.nsIn K mainGlobals "WORDS_OF_ONE" = some (some (.ref t_WORDS_OF_ONE))) (tl_WORDS_OF_ONE : K.lookup t_WORDS_OF_ONE = some ⟨.type "tuple", to_WORDS_OF_ONE, .seq ti_WORDS_OF_ONE tn_WORDS_OF_ONE, ts_WORDS_OF_ONE⟩) (tv_WORDS_OF_ONE : Vals wordsV ti_WORDS_OF_ONE.toList)
    {i_MOST_TERMS : Tok}
    (ia_MOST_TERMS : PySem.W.nsIn K mainGlobals "MOST_TERMS" = some (some (.int 4096 i_MOST_TERMS)))
    (da_SPANS : PySem.W.nsIn K mainGlobals "SPANS" = some (some (.ref d_SPANS))) (dl_SPANS : K.lookup d_SPANS = some ⟨.type "dict", none, .dict es_SPANS n_SPANS, #[]⟩) (de_SPANS : EntOk w es_SPANS.toList spans)
    (z_len : PySem.W.nsIn K mainGlobals "len" = some none)
    (z_min : PySem.W.nsIn K mainGlobals "min" = some none)
    (z_max : PySem.W.nsIn K mainGlobals "max" = some none)
    (z_range : PySem.W.nsIn K mainGlobals "range" = some none)
    (z_set : PySem.W.nsIn K mainGlobals "set" = some none)
    (cb_Terms : clsOkB K C_Terms [("__init__", f4), ("number", f6), ("unknown", f7), ("make", f14), ("term_of", f5), ("is_known", f8), ("known", f9), ("form_of_one", f10), ("form_of_two", f13), ("form_with_number", f12), ("form_of_plus", f11)] ["width", "forms", "places"] = true)
    (sm_SPANS : (d_SPANS == sysModules) = false)
    : ∃ fd : FuncData, (∀ (s : Shared) (v : Value), BindsTo s fd ⟨[v], []⟩ [("_law_script", v)]) ∧ ∀ base : Heap, K.In base → base.Ns mainGlobals mg → FnOk l.prog w K mg base CX0 8 fa fd ["_law_script"] (spLaw K) := by
  have e := hfa.symm.trans (PySem.W.mg_of X G a23)
  cases e
  have B : Bls mg := ⟨PySem.W.mg_none_of X G z_len, PySem.W.mg_none_of X G z_min, PySem.W.mg_none_of X G z_max, PySem.W.mg_none_of X G z_range, PySem.W.mg_none_of X G z_set⟩
  have F0 := fun_mk (st := s_fit) l0 c0 k0
  have F_fit := F0
  have F1 := fun_mk (st := s_unfitted_of_two) l1 c1 k1
  have F_unfitted_of_two := F1
  have F2 := fun_mk (st := s_unfitted) l2 c2 k2
  have F_unfitted := F2
  have F3 := fun_mk (st := s_reckoned) l3 c3 k3
  have F_reckoned := F3
  have F4 := fun_mk (st := s_Terms___init__) l4 c4 k4
  have F_Terms___init__ := F4
  have F5 := fun_mk (st := s_Terms_term_of) l5 c5 k5
  have F_Terms_term_of := F5
  have F6 := fun_mk (st := s_Terms_number) l6 c6 k6
  have F_Terms_number := F6
  have F7 := fun_mk (st := s_Terms_unknown) l7 c7 k7
  have F_Terms_unknown := F7
  have F8 := fun_mk (st := s_Terms_is_known) l8 c8 k8
  have F_Terms_is_known := F8
  have F9 := fun_mk (st := s_Terms_known) l9 c9 k9
  have F_Terms_known := F9
  have F10 := fun_mk (st := s_Terms_form_of_one) l10 c10 k10
  have F_Terms_form_of_one := F10
  have F11 := fun_mk (st := s_Terms_form_of_plus) l11 c11 k11
  have F_Terms_form_of_plus := F11
  have F12 := fun_mk (st := s_Terms_form_with_number) l12 c12 k12
  have F_Terms_form_with_number := F12
  have F13 := fun_mk (st := s_Terms_form_of_two) l13 c13 k13
  have F_Terms_form_of_two := F13
  have F14 := fund_mk (st := s_Terms_make) l14 c14 k14 dl14
  have F_Terms_make := F14
  have F15 := fun_mk (st := s__law_cell_at) l15 c15 k15
  have F__law_cell_at := F15
  have F16 := fun_mk (st := s__law_is_row) l16 c16 k16
  have F__law_is_row := F16
  have F17 := fun_mk (st := s__law_mixed) l17 c17 k17
  have F__law_mixed := F17
  have F18 := fun_mk (st := s__law_number) l18 c18 k18
  have F__law_number := F18
  have F19 := fun_mk (st := s__law_term) l19 c19 k19
  have F__law_term := F19
  have F20 := fun_mk (st := s__law_nothing_done) l20 c20 k20
  have F__law_nothing_done := F20
  have F21 := fun_mk (st := s__law_nought) l21 c21 k21
  have F__law_nought := F21
  have F22 := fun_mk (st := s__law_numbers) l22 c22 k22
  have F__law_numbers := F22
  have F23 := fun_mk (st := s_law) l23 c23 k23
  have F_law := F23
  refine ⟨PySem.W.fnOf "law" "law" (defArgs s_law) (defBody s_law) (defScope s_law) .none kV23 dc23 pm23 an23 cd23 ct23, fun s v => .of_eq rfl, fun base kb gb => ?_⟩
  have M_SPANS := PySem.W.mg_of X G da_SPANS
  have M_WORDS_OF_ONE := PySem.W.mg_of X G ta_WORDS_OF_ONE
  have M_MOST_TERMS := PySem.W.mg_of X G ia_MOST_TERMS
  have sq_WORDS_OF_ONE := tupK tl_WORDS_OF_ONE tv_WORDS_OF_ONE (by decide)
  have tb_SPANS : TabK l.prog w K d_SPANS spans := TabK.of dl_SPANS de_SPANS (by decide)
  have M_Terms := PySem.W.mg_of X G ca_Terms
  have X_Terms := ClsOk.of cb_Terms
  have c_fit := calOf (P := l.prog) (w := w) (base := base) (ok_fit F0 M_SPANS tb_SPANS) (PySem.W.mg_of X G a0) k0 (F0.binds (ps := ["width", "number"]) (fun _ _ _ _ _ _ us hl => by obtain ⟨_, us, rfl, h0⟩ := cons_of hl; obtain ⟨_, us, rfl, h1⟩ := cons_of h0; obtain rfl := List.eq_nil_of_length_eq_zero h1; rfl))
  have c_unfitted_of_two := calOf (P := l.prog) (w := w) (base := base) (ok_unfitted_of_two F1 ) (PySem.W.mg_of X G a1) k1 (F1.binds (ps := ["word", "one", "other"]) (fun _ _ _ _ _ _ us hl => by obtain ⟨_, us, rfl, h0⟩ := cons_of hl; obtain ⟨_, us, rfl, h1⟩ := cons_of h0; obtain ⟨_, us, rfl, h2⟩ := cons_of h1; obtain rfl := List.eq_nil_of_length_eq_zero h2; rfl))
  have c_unfitted := calOf (P := l.prog) (w := w) (base := base) (ok_unfitted F2 c_unfitted_of_two) (PySem.W.mg_of X G a2) k2 (F2.binds (ps := ["word", "one", "other"]) (fun _ _ _ _ _ _ us hl => by obtain ⟨_, us, rfl, h0⟩ := cons_of hl; obtain ⟨_, us, rfl, h1⟩ := cons_of h0; obtain ⟨_, us, rfl, h2⟩ := cons_of h1; obtain rfl := List.eq_nil_of_length_eq_zero h2; rfl))
  have c_reckoned := calOf (P := l.prog) (w := w) (base := base) (ok_reckoned F3 c_fit c_unfitted) (PySem.W.mg_of X G a3) k3 (F3.binds (ps := ["width", "word", "one", "other"]) (fun _ _ _ _ _ _ us hl => by obtain ⟨_, us, rfl, h0⟩ := cons_of hl; obtain ⟨_, us, rfl, h1⟩ := cons_of h0; obtain ⟨_, us, rfl, h2⟩ := cons_of h1; obtain ⟨_, us, rfl, h3⟩ := cons_of h2; obtain rfl := List.eq_nil_of_length_eq_zero h3; rfl))
  have na : ∀ f ∈ tfs, NoAttr K C_Terms f := fun f hf => X_Terms.na f hf
  have hc := X_Terms.ins.cl
  have o_Terms___init__ := ok_Terms___init__ (P := l.prog) (w := w) (mg := mg) (base := base) F4 hc na
  have b_Terms___init__ := F4.binds (ps := ["self", "width"]) (fun _ _ _ _ _ _ us hl => by obtain ⟨_, us, rfl, h0⟩ := cons_of hl; obtain ⟨_, us, rfl, h1⟩ := cons_of h0; obtain rfl := List.eq_nil_of_length_eq_zero h1; rfl)
  have c_Terms : KCal l.prog w K mg base "Terms" C_Terms 1 (sp_tinit C_Terms) := ⟨_, _, _, X_Terms.made (by simp), o_Terms___init__, M_Terms, b_Terms___init__⟩
  have o_Terms_term_of := ok_Terms_term_of (P := l.prog) (w := w) (mg := mg) (base := base) F5 B M_MOST_TERMS hc na
  have b_Terms_term_of := F5.binds (ps := ["self", "form"]) (fun _ _ _ _ _ _ us hl => by obtain ⟨_, us, rfl, h0⟩ := cons_of hl; obtain ⟨_, us, rfl, h1⟩ := cons_of h0; obtain rfl := List.eq_nil_of_length_eq_zero h1; rfl)
  have mT : MCal l.prog w K mg base C_Terms "term_of" 1 (sp_term C_Terms) := ⟨hc, _, _, _, o_Terms_term_of, X_Terms.me ("term_of", _) (by simp), b_Terms_term_of⟩
  have o_Terms_number := ok_Terms_number (P := l.prog) (w := w) (mg := mg) (base := base) F6 hc na c_fit mT
  have b_Terms_number := F6.binds (ps := ["self", "whole"]) (fun _ _ _ _ _ _ us hl => by obtain ⟨_, us, rfl, h0⟩ := cons_of hl; obtain ⟨_, us, rfl, h1⟩ := cons_of h0; obtain rfl := List.eq_nil_of_length_eq_zero h1; rfl)
  have mN : MCal l.prog w K mg base C_Terms "number" 2 (sp_num C_Terms) := ⟨hc, _, _, _, o_Terms_number, X_Terms.me ("number", _) (by simp), b_Terms_number⟩
  have o_Terms_unknown := ok_Terms_unknown (P := l.prog) (w := w) (mg := mg) (base := base) F7 mT
  have b_Terms_unknown := F7.binds (ps := ["self", "name", "which"]) (fun _ _ _ _ _ _ us hl => by obtain ⟨_, us, rfl, h0⟩ := cons_of hl; obtain ⟨_, us, rfl, h1⟩ := cons_of h0; obtain ⟨_, us, rfl, h2⟩ := cons_of h1; obtain rfl := List.eq_nil_of_length_eq_zero h2; rfl)
  have mU : MCal l.prog w K mg base C_Terms "unknown" 2 (sp_unk C_Terms) := ⟨hc, _, _, _, o_Terms_unknown, X_Terms.me ("unknown", _) (by simp), b_Terms_unknown⟩
  have o_Terms_is_known := ok_Terms_is_known (P := l.prog) (w := w) (mg := mg) (base := base) F8 hc na
  have b_Terms_is_known := F8.binds (ps := ["self", "term"]) (fun _ _ _ _ _ _ us hl => by obtain ⟨_, us, rfl, h0⟩ := cons_of hl; obtain ⟨_, us, rfl, h1⟩ := cons_of h0; obtain rfl := List.eq_nil_of_length_eq_zero h1; rfl)
  have mK : MCal l.prog w K mg base C_Terms "is_known" 1 (sp_known C_Terms) := ⟨hc, _, _, _, o_Terms_is_known, X_Terms.me ("is_known", _) (by simp), b_Terms_is_known⟩
  have o_Terms_known := ok_Terms_known (P := l.prog) (w := w) (mg := mg) (base := base) F9 hc na
  have b_Terms_known := F9.binds (ps := ["self", "term"]) (fun _ _ _ _ _ _ us hl => by obtain ⟨_, us, rfl, h0⟩ := cons_of hl; obtain ⟨_, us, rfl, h1⟩ := cons_of h0; obtain rfl := List.eq_nil_of_length_eq_zero h1; rfl)
  have mV : MCal l.prog w K mg base C_Terms "known" 1 (sp_val C_Terms) := ⟨hc, _, _, _, o_Terms_known, X_Terms.me ("known", _) (by simp), b_Terms_known⟩
  have o_Terms_form_of_one := ok_Terms_form_of_one (P := l.prog) (w := w) (mg := mg) (base := base) F10 hc na mK c_reckoned
  have b_Terms_form_of_one := F10.binds (ps := ["self", "word", "one"]) (fun _ _ _ _ _ _ us hl => by obtain ⟨_, us, rfl, h0⟩ := cons_of hl; obtain ⟨_, us, rfl, h1⟩ := cons_of h0; obtain ⟨_, us, rfl, h2⟩ := cons_of h1; obtain rfl := List.eq_nil_of_length_eq_zero h2; rfl)
  have mO : MCal l.prog w K mg base C_Terms "form_of_one" 4 (sp_one C_Terms) := ⟨hc, _, _, _, o_Terms_form_of_one, X_Terms.me ("form_of_one", _) (by simp), b_Terms_form_of_one⟩
  have b_Terms_form_of_plus := F11.binds (ps := ["self", "one", "number"]) (fun _ _ _ _ _ _ us hl => by obtain ⟨_, us, rfl, h0⟩ := cons_of hl; obtain ⟨_, us, rfl, h1⟩ := cons_of h0; obtain ⟨_, us, rfl, h2⟩ := cons_of h1; obtain rfl := List.eq_nil_of_length_eq_zero h2; rfl)
  have mP0 : MCal l.prog w K mg base C_Terms "form_of_plus" 1 sp_no := ⟨hc, _, _, _, ok_no F_Terms_form_of_plus, X_Terms.me ("form_of_plus", _) (by simp), b_Terms_form_of_plus⟩
  have mP1 : MCal l.prog w K mg base C_Terms "form_of_plus" 2 (sp_pls C_Terms false) := ⟨hc, _, _, _, ok_Terms_form_of_plus F_Terms_form_of_plus (by decide) hc na mP0 (fun z => nomatch z) c_fit, X_Terms.me ("form_of_plus", _) (by simp), b_Terms_form_of_plus⟩
  have mP : MCal l.prog w K mg base C_Terms "form_of_plus" 3 (sp_pls C_Terms true) := ⟨hc, _, _, _, ok_Terms_form_of_plus F_Terms_form_of_plus (by decide) hc na mP1 (fun _ => rfl) c_fit, X_Terms.me ("form_of_plus", _) (by simp), b_Terms_form_of_plus⟩
  have o_Terms_form_with_number := ok_Terms_form_with_number (P := l.prog) (w := w) (mg := mg) (base := base) F12 hc na mV mP
  have b_Terms_form_with_number := F12.binds (ps := ["self", "word", "one", "other"]) (fun _ _ _ _ _ _ us hl => by obtain ⟨_, us, rfl, h0⟩ := cons_of hl; obtain ⟨_, us, rfl, h1⟩ := cons_of h0; obtain ⟨_, us, rfl, h2⟩ := cons_of h1; obtain ⟨_, us, rfl, h3⟩ := cons_of h2; obtain rfl := List.eq_nil_of_length_eq_zero h3; rfl)
  have mW : MCal l.prog w K mg base C_Terms "form_with_number" 4 (sp_wn C_Terms) := ⟨hc, _, _, _, o_Terms_form_with_number, X_Terms.me ("form_with_number", _) (by simp), b_Terms_form_with_number⟩
  have o_Terms_form_of_two := ok_Terms_form_of_two (P := l.prog) (w := w) (mg := mg) (base := base) F13 B hc na mK mV mW c_reckoned
  have b_Terms_form_of_two := F13.binds (ps := ["self", "word", "one", "other"]) (fun _ _ _ _ _ _ us hl => by obtain ⟨_, us, rfl, h0⟩ := cons_of hl; obtain ⟨_, us, rfl, h1⟩ := cons_of h0; obtain ⟨_, us, rfl, h2⟩ := cons_of h1; obtain ⟨_, us, rfl, h3⟩ := cons_of h2; obtain rfl := List.eq_nil_of_length_eq_zero h3; rfl)
  have m2 : MCal l.prog w K mg base C_Terms "form_of_two" 5 (sp_two C_Terms) := ⟨hc, _, _, _, o_Terms_form_of_two, X_Terms.me ("form_of_two", _) (by simp), b_Terms_form_of_two⟩
  have o_Terms_make := ok_Terms_make (P := l.prog) (w := w) (mg := mg) (base := base) F14 M_WORDS_OF_ONE sq_WORDS_OF_ONE mT mO m2
  have b_Terms_make := F14.binds (ps := ["self", "word", "one", "other"]) (d2 := []) (fun _ _ _ _ _ _ _ us hl => by rw [List.append_nil] at hl ⊢; obtain ⟨_, us, rfl, h0⟩ := cons_of hl; obtain ⟨_, us, rfl, h1⟩ := cons_of h0; obtain ⟨_, us, rfl, h2⟩ := cons_of h1; obtain ⟨_, us, rfl, h3⟩ := cons_of h2; obtain rfl := List.eq_nil_of_length_eq_zero h3; exact ⟨_, rfl, rfl⟩)
  have mM : MCal l.prog w K mg base C_Terms "make" 6 (sp_make C_Terms) := ⟨hc, _, _, _, o_Terms_make, X_Terms.me ("make", _) (by simp), b_Terms_make⟩
  have mD : MCalD l.prog w K mg base C_Terms "make" 6 (sp_make C_Terms) [.non] := ⟨hc, _, _, _, _, o_Terms_make, X_Terms.me ("make", _) (by simp), F_Terms_make.binds (ps := ["self", "word", "one", "other"]) (d2 := [.none]) (fun _ _ _ _ _ _ _ us hl => by replace hl : us.length = 3 := (by simpa using hl); obtain ⟨_, us, rfl, h0⟩ := cons_of hl; obtain ⟨_, us, rfl, h1⟩ := cons_of h0; obtain ⟨_, us, rfl, h2⟩ := cons_of h1; obtain rfl := List.eq_nil_of_length_eq_zero h2; exact ⟨_, rfl, rfl⟩), (by repeat' (first | exact rfl | exact ⟨_, rfl⟩ | exact Paired.nil | refine Paired.cons ?_ ?_))⟩
  have c__law_cell_at := calOf (P := l.prog) (w := w) (base := base) (ok__law_cell_at F15 B) (PySem.W.mg_of X G a15) k15 (F15.binds (ps := ["_law_script", "_law_k"]) (fun _ _ _ _ _ _ us hl => by obtain ⟨_, us, rfl, h0⟩ := cons_of hl; obtain ⟨_, us, rfl, h1⟩ := cons_of h0; obtain rfl := List.eq_nil_of_length_eq_zero h1; rfl))
  have c__law_is_row := calOf (P := l.prog) (w := w) (base := base) (ok__law_is_row F16 ) (PySem.W.mg_of X G a16) k16 (F16.binds (ps := ["_law_cell"]) (fun _ _ _ _ _ _ us hl => by obtain ⟨_, us, rfl, h0⟩ := cons_of hl; obtain rfl := List.eq_nil_of_length_eq_zero h0; rfl))
  have c__law_mixed := calOf (P := l.prog) (w := w) (base := base) (ok__law_mixed F17 c__law_is_row) (PySem.W.mg_of X G a17) k17 (F17.binds (ps := ["_law_cell", "_law_k"]) (fun _ _ _ _ _ _ us hl => by obtain ⟨_, us, rfl, h0⟩ := cons_of hl; obtain ⟨_, us, rfl, h1⟩ := cons_of h0; obtain rfl := List.eq_nil_of_length_eq_zero h1; rfl))
  have c__law_number := calOf (P := l.prog) (w := w) (base := base) (ok__law_number F18 c__law_is_row c__law_mixed) (PySem.W.mg_of X G a18) k18 (F18.binds (ps := ["_law_cell", "_law_k", "_law_width"]) (fun _ _ _ _ _ _ us hl => by obtain ⟨_, us, rfl, h0⟩ := cons_of hl; obtain ⟨_, us, rfl, h1⟩ := cons_of h0; obtain ⟨_, us, rfl, h2⟩ := cons_of h1; obtain rfl := List.eq_nil_of_length_eq_zero h2; rfl))
  have c__law_term := calOf (P := l.prog) (w := w) (base := base) (ok__law_term F19 c__law_mixed c__law_number mN mU mM) (PySem.W.mg_of X G a19) k19 (F19.binds (ps := ["_law_terms", "_law_cell", "_law_width"]) (fun _ _ _ _ _ _ us hl => by obtain ⟨_, us, rfl, h0⟩ := cons_of hl; obtain ⟨_, us, rfl, h1⟩ := cons_of h0; obtain ⟨_, us, rfl, h2⟩ := cons_of h1; obtain rfl := List.eq_nil_of_length_eq_zero h2; rfl))
  have c__law_nothing_done := calOf (P := l.prog) (w := w) (base := base) (ok__law_nothing_done F20 B mN mM mD) (PySem.W.mg_of X G a20) k20 (F20.binds (ps := ["_law_terms", "_law_x"]) (fun _ _ _ _ _ _ us hl => by obtain ⟨_, us, rfl, h0⟩ := cons_of hl; obtain ⟨_, us, rfl, h1⟩ := cons_of h0; obtain rfl := List.eq_nil_of_length_eq_zero h1; rfl))
  have c__law_nought := calOf (P := l.prog) (w := w) (base := base) (ok__law_nought F21 mN mM) (PySem.W.mg_of X G a21) k21 (F21.binds (ps := ["_law_terms", "_law_x"]) (fun _ _ _ _ _ _ us hl => by obtain ⟨_, us, rfl, h0⟩ := cons_of hl; obtain ⟨_, us, rfl, h1⟩ := cons_of h0; obtain rfl := List.eq_nil_of_length_eq_zero h1; rfl))
  have c__law_numbers := calOf (P := l.prog) (w := w) (base := base) (ok__law_numbers F22 mN mM mD) (PySem.W.mg_of X G a22) k22 (F22.binds (ps := ["_law_terms", "_law_x", "_law_first", "_law_second", "_law_width"]) (fun _ _ _ _ _ _ us hl => by obtain ⟨_, us, rfl, h0⟩ := cons_of hl; obtain ⟨_, us, rfl, h1⟩ := cons_of h0; obtain ⟨_, us, rfl, h2⟩ := cons_of h1; obtain ⟨_, us, rfl, h3⟩ := cons_of h2; obtain ⟨_, us, rfl, h4⟩ := cons_of h3; obtain rfl := List.eq_nil_of_length_eq_zero h4; rfl))
  exact ok_law F23 B c_Terms c__law_cell_at c__law_number c__law_term c__law_nothing_done c__law_nought c__law_numbers mU mM
theorem walk {l : PySem.W.OpenLaw} {q : Program} {loose : List Str} {XP : (Str → Option Value) → Heap → Prop} {YP : World → Heap → Prop} {d : DefRec} {K : Params → PySem.W.Frag} (hn : l.most = some 63) (hdf : d.params.defaults = [])
    (hY : ∀ (w : World) (h : Heap), YP w h → (K w.params).In h)
    (F : ∀ (w : World) (mg : Str → Option Value) (fa : Addr) (h : Heap), (K w.params).In h → h.Ns mainGlobals mg → mg d.name = some (.ref fa) →
      ∃ fd : FuncData, (∀ (s : Shared) (u : Value), BindsTo s fd ⟨[u], []⟩ [("_law_script", u)]) ∧ ∀ base : Heap, (K w.params).In base → base.Ns mainGlobals mg → FnOk l.prog w (K w.params) mg base CX0 8 fa fd ["_law_script"] (spLaw (K w.params))) :
    PySem.W.WalkO q loose XP YP l.row.toRowW d [] (fun f vs => PySem.call f vs) :=
  L2.walk_of (n := 63) (k := 8) (x := "_law_script") (CX := fun _ => CX0) (sp := fun w => spLaw (K w.params)) hn (by decide) hdf ⟨rfl, by decide, by decide⟩ hY F (fun _ _ a ns hl _ hS => ⟨a, ns, rfl, hS, hl, fun _ => rfl⟩) fun _ _ _ _ _ z => z
end K42
open PySem PySem.W PyProof.Rows
set_option maxRecDepth 100000 in
set_option maxHeartbeats 0 in
theorem PySem.Challenge.cw_hostturn_k42_like_terms_holds : PySem.Challenge.rw_hostturn_k42_like_terms.Holds := by
  w_on; o_law; k_head; (case hw => w_witness2)
  k_fill
  refine K42.walk (l := PySem.Challenge.rw_hostturn_k42_like_terms) rfl rfl (fun w h Y => PySem.W.kIn_of Y) ?F
  case F =>
    intro w mg fa h KX G hmg
    refine' K42.all_mk KX G hmg ?ca_Terms ?a0 ?l0 ?c0 ?k0 ?a1 ?l1 ?c1 ?k1 ?a2 ?l2 ?c2 ?k2 ?a3 ?l3 ?c3 ?k3 ?a4 ?l4 ?c4 ?k4 ?a5 ?l5 ?c5 ?k5 ?a6 ?l6 ?c6 ?k6 ?a7 ?l7 ?c7 ?k7 ?a8 ?l8 ?c8 ?k8 ?a9 ?l9 ?c9 ?k9 ?a10 ?l10 ?c10 ?k10 ?a11 ?l11 ?c11 ?k11 ?a12 ?l12 ?c12 ?k12 ?a13 ?l13 ?c13 ?k13 ?a14 ?l14 ?c14 ?k14 ?dl14 ?a15 ?l15 ?c15 ?k15 ?a16 ?l16 ?c16 ?k16 ?a17 ?l17 ?c17 ?k17 ?a18 ?l18 ?c18 ?k18 ?a19 ?l19 ?c19 ?k19 ?a20 ?l20 ?c20 ?k20 ?a21 ?l21 ?c21 ?k21 ?a22 ?l22 ?c22 ?k22 ?a23 ?l23 ?c23 ?k23 ?ta_WORDS_OF_ONE ?tl_WORDS_OF_ONE ?tv_WORDS_OF_ONE ?ia_MOST_TERMS ?da_SPANS ?dl_SPANS ?de_SPANS ?z_len ?z_min ?z_max ?z_range ?z_set ?cb_Terms ?sm_SPANS
    (case ca_Terms => k_is)
    (case a0 => k_is)
    (case l0 => k_is)
    (case c0 => k_is)
    (case k0 => k_is)
    (case a1 => k_is)
    (case l1 => k_is)
    (case c1 => k_is)
    (case k1 => k_is)
    (case a2 => k_is)
    (case l2 => k_is)
    (case c2 => k_is)
    (case k2 => k_is)
    (case a3 => k_is)
    (case l3 => k_is)
    (case c3 => k_is)
    (case k3 => k_is)
    (case a4 => k_is)
    (case l4 => k_is)
    (case c4 => k_is)
    (case k4 => k_is)
    (case a5 => k_is)
    (case l5 => k_is)
    (case c5 => k_is)
    (case k5 => k_is)
    (case a6 => k_is)
    (case l6 => k_is)
    (case c6 => k_is)
    (case k6 => k_is)
    (case a7 => k_is)
    (case l7 => k_is)
    (case c7 => k_is)
    (case k7 => k_is)
    (case a8 => k_is)
    (case l8 => k_is)
    (case c8 => k_is)
    (case k8 => k_is)
    (case a9 => k_is)
    (case l9 => k_is)
    (case c9 => k_is)
    (case k9 => k_is)
    (case a10 => k_is)
    (case l10 => k_is)
    (case c10 => k_is)
    (case k10 => k_is)
    (case a11 => k_is)
    (case l11 => k_is)
    (case c11 => k_is)
    (case k11 => k_is)
    (case a12 => k_is)
    (case l12 => k_is)
    (case c12 => k_is)
    (case k12 => k_is)
    (case a13 => k_is)
    (case l13 => k_is)
    (case c13 => k_is)
    (case k13 => k_is)
    (case a14 => k_is)
    (case l14 => k_is)
    (case c14 => k_is)
    (case k14 => k_is)
    (case dl14 => k_is)
    (case a15 => k_is)
    (case l15 => k_is)
    (case c15 => k_is)
    (case k15 => k_is)
    (case a16 => k_is)
    (case l16 => k_is)
    (case c16 => k_is)
    (case k16 => k_is)
    (case a17 => k_is)
    (case l17 => k_is)
    (case c17 => k_is)
    (case k17 => k_is)
    (case a18 => k_is)
    (case l18 => k_is)
    (case c18 => k_is)
    (case k18 => k_is)
    (case a19 => k_is)
    (case l19 => k_is)
    (case c19 => k_is)
    (case k19 => k_is)
    (case a20 => k_is)
    (case l20 => k_is)
    (case c20 => k_is)
    (case k20 => k_is)
    (case a21 => k_is)
    (case l21 => k_is)
    (case c21 => k_is)
    (case k21 => k_is)
    (case a22 => k_is)
    (case l22 => k_is)
    (case c22 => k_is)
    (case k22 => k_is)
    (case a23 => k_is)
    (case l23 => k_is)
    (case c23 => k_is)
    (case k23 => k_is)
    (case ta_WORDS_OF_ONE => k_is)
    (case tl_WORDS_OF_ONE => k_is)
    (case tv_WORDS_OF_ONE => repeat' (first | exact rfl | exact ⟨_, rfl⟩ | exact Paired.nil | refine Paired.cons ?_ ?_))
    (case ia_MOST_TERMS => k_is)
    (case da_SPANS => k_is)
    (case dl_SPANS => k_is)
    (case de_SPANS => repeat' (first | exact True.intro | exact rfl | exact ⟨_, rfl⟩ | constructor))
    (case z_len => k_is)
    (case z_min => k_is)
    (case z_max => k_is)
    (case z_range => k_is)
    (case z_set => k_is)
    (case cb_Terms => kernel_rfl)
    (case sm_SPANS => kernel_rfl)
