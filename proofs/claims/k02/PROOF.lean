import PyProof.Rows.All
import Wide.All
import OpenK.AllK
import Wide.FinOn
import Lean
import PyProof.EqAt
import PyProof.EqKinds
import PyProof.TupleCall
import PyProof.ZipIter
import PyProof.ListNew
import PySem.Challenge.RW_hostturn_k02_reckoned
set_option Elab.async false
set_option linter.all false
set_option maxRecDepth 100000
/-! THE HAND LAYER, for ints, bools, texts, own classes, LISTS and tuples (index, slices, in, append, pop ..), calls, loops. Paste it whole ahead of your own text; what your proof does not reach may be deleted. -/
namespace L2
open PySem PySem.Spec PyProof.Rows
/-- a key: an int or a str -/
abbrev Key := Sum Int Str
def keyIs : Key → Value → Bool
  | .inl k, v => Value.isInt k v
  | .inr x, v => Value.isStrOf x v
def keyH (w : World) : Key → Int
  | .inl k => hashInt k
  | .inr x => hashStr w x
theorem keyIs_shape : ∀ {k : Key} {v : Value}, keyIs k v = true → (∃ i t, k = Sum.inl i ∧ v = Value.int i t) ∨ (∃ x t, k = Sum.inr x ∧ v = Value.str x t)
  | .inl i, v, h => by
    obtain ⟨t, e⟩ := Value.isInt_shape (k := i) (v := v) h
    exact .inl ⟨i, t, rfl, e⟩
  | .inr x, v, h => by
    obtain ⟨t, e⟩ := Value.isStrOf_shape (x := x) (v := v) h
    exact .inr ⟨x, t, rfl, e⟩
theorem keyIs_int (i : Int) (t : Tok) : keyIs (.inl i) (.int i t) = true := by simp [keyIs, Value.isInt]
theorem keyIs_str (x : Str) (t : Tok) : keyIs (.inr x) (.str x t) = true := by simp [keyIs, Value.isStrOf]
theorem key_ll (a b : Int) : decide ((Sum.inl a : Key) = Sum.inl b) = (a == b) := by
  by_cases e : a = b
  · subst e; simp
  · have h : ¬ (Sum.inl a : Key) = Sum.inl b := fun q => e (Sum.inl.inj q)
    rw [decide_eq_false h]
    exact (beq_eq_false_iff_ne.mpr e).symm
theorem key_rr (a b : Str) : decide ((Sum.inr a : Key) = Sum.inr b) = decide (a = b) := by
  by_cases e : a = b
  · subst e; simp
  · have h : ¬ (Sum.inr a : Key) = Sum.inr b := fun q => e (Sum.inr.inj q)
    rw [decide_eq_false h, decide_eq_false e]
theorem key_lr (a : Int) (b : Str) : decide ((Sum.inl a : Key) = Sum.inr b) = false := decide_eq_false (fun q => nomatch q)
theorem key_rl (a : Str) (b : Int) : decide ((Sum.inr a : Key) = Sum.inl b) = false := decide_eq_false (fun q => nomatch q)
def mixKind (prog : Program) (w : World) : PySem.KeyKind prog w Key where
  is := keyIs
  hash := keyH w
  inj := fun v a b ha hb => by
    rcases keyIs_shape ha with ⟨i, t, rfl, rfl⟩ | ⟨x, t, rfl, rfl⟩
    · rcases keyIs_shape hb with ⟨j, u, rfl, e⟩ | ⟨y, u, rfl, e⟩
      · injection e with e1 _; rw [e1]
      · exact nomatch e
    · rcases keyIs_shape hb with ⟨j, u, rfl, e⟩ | ⟨y, u, rfl, e⟩
      · exact nomatch e
      · injection e with e1 _; rw [e1]
  byValue := fun k v h => by
    rcases keyIs_shape h with ⟨i, t, rfl, rfl⟩ | ⟨x, t, rfl, rfl⟩ <;> rfl
  pyHash := fun hv h => by
    rcases keyIs_shape hv with ⟨i, t, rfl, rfl⟩ | ⟨x, t, rfl, rfl⟩
    · exact wpAny_pyHash_int h
    · exact wpAny_pyHash_str h
  eqBool := fun hu hv h => by
    rcases keyIs_shape hu with ⟨i, t, rfl, rfl⟩ | ⟨x, t, rfl, rfl⟩
    · rcases keyIs_shape hv with ⟨j, u, rfl, rfl⟩ | ⟨y, u, rfl, rfl⟩
      · rw [key_ll] at h; exact wpAny_eqBool_int h
      · rw [key_lr] at h; exact SeqAt.EqAt.int_str i t y u _ _ _ _ h
    · rcases keyIs_shape hv with ⟨j, u, rfl, rfl⟩ | ⟨y, u, rfl, rfl⟩
      · rw [key_rl] at h; exact SeqAt.EqAt.str_int x t j u _ _ _ _ h
      · rw [key_rr] at h; exact wpAny_eqBool_str h
  «strs» := fun k x t v h => by
    rcases keyIs_shape h with ⟨i, u, rfl, e⟩ | ⟨y, u, rfl, e⟩
    · exact nomatch e
    · injection e with e1 _
      subst e1
      cases v <;> rfl
theorem mixKind_int (prog : Program) (w : World) (i : Int) (t : Tok) : (mixKind prog w).is (.inl i) (.int i t) = true := keyIs_int i t
theorem mixKind_str (prog : Program) (w : World) (x : Str) (t : Tok) : (mixKind prog w).is (.inr x) (.str x t) = true := keyIs_str x t
end L2
namespace L2
open PySem PySem.Spec PyProof.Rows
/-- a value, without the heap -/
inductive V where
  | non | bl (b : Bool) | int (i : Int) | str (x : Str) | byt (b : Array UInt8) | flt (b : UInt64) | ref (a : Addr) | ty (n : String)
  deriving DecidableEq
def RelV : V → Value → Prop
  | .non, u => u = Value.none
  | .bl b, u => u = Value.bool b
  | .int i, u => ∃ t, u = Value.int i t
  | .str x, u => ∃ t, u = Value.str x t
  | .byt b, u => ∃ t, u = Value.bytes b t
  | .flt b, u => ∃ t, u = Value.float b t
  | .ref a, u => u = Value.ref a
  | .ty n, u => u = Value.type n
abbrev Vals : List V → List Value → Prop := Paired RelV
theorem Vals.length {xs : List V} {us : List Value} (r : Vals xs us) : xs.length = us.length := Paired.length r
theorem Vals.get : ∀ {xs : List V} {us : List Value} {i : Nat} {x : V}, Vals xs us → xs[i]? = some x → ∃ u, us[i]? = some u ∧ RelV x u
  | _, _, _, _, .nil, e => by simp at e
  | _, _, 0, _, .cons r _, e => by simp at e; subst e; exact ⟨_, rfl, r⟩
  | _, _, i + 1, x, .cons _ t, e => by
    obtain ⟨u, h1, h2⟩ := Vals.get (i := i) (x := x) t (by simpa using e)
    exact ⟨u, by simpa using h1, h2⟩
theorem Vals.set {x : V} {u : Value} (r : RelV x u) : ∀ {xs : List V} {us : List Value} (i : Nat), Vals xs us → Vals (xs.set i x) (us.set i u)
  | _, _, _, .nil => .nil
  | _, _, 0, .cons _ t => .cons r t
  | _, _, i + 1, .cons q t => .cons q (Vals.set r i t)
theorem Vals.append : ∀ {xs ys : List V} {us ws : List Value}, Vals xs us → Vals ys ws → Vals (xs ++ ys) (us ++ ws)
  | _, _, _, _, .nil, s => s
  | _, _, _, _, .cons r t, s => .cons r (Vals.append t s)
theorem Vals.take : ∀ {xs : List V} {us : List Value} (n : Nat), Vals xs us → Vals (xs.take n) (us.take n)
  | _, _, 0, _ => .nil
  | _, _, _ + 1, .nil => .nil
  | _, _, n + 1, .cons r t => .cons r (Vals.take n t)
theorem Vals.drop : ∀ {xs : List V} {us : List Value} (n : Nat), Vals xs us → Vals (xs.drop n) (us.drop n)
  | _, _, 0, r => r
  | _, _, _ + 1, .nil => .nil
  | _, _, n + 1, .cons _ t => Vals.drop n t
def RelO : Option V → Option Value → Prop
  | some v, some u => RelV v u
  | none, none => True
  | _, _ => False
def KV {κ : Type} : List (κ × V) → List (κ × Value) → Prop := Paired fun (p : κ × V) (q : κ × Value) => p.1 = q.1 ∧ RelV p.2 q.2
/-- a key of a dict (00_mix): an int or a text -/
def kV : Key → V
  | .inl i => .int i
  | .inr x => .str x
/-- what stands at a tracked address -/
inductive HO where
  /-- a list -/
  | lst (xs : List V)
  /-- a tuple (never changes) -/
  | tup (xs : List V)
  /-- a dict whose keys are ints and texts; one whose keys are tuples of ints and texts (the empty one is both) -/
  | dK (kvs : List (Key × V)) | dT (kvs : List (List Key × V))
  /-- a set of ints: its members, its size -/
  | set (S : Int → Bool) (n : Nat)
  /-- an instance of the class at C, its dict at dx, its attributes -/
  | ins (C dx : Addr) (fs : List (Str × V))
  /-- the dict of the instance at x -/
  | own (x : Addr)
  /-- the dict of an exception -/
  | xd (fs : List (Str × V))
  /-- a bound method, f of x -/
  | met (f x : Addr)
  /-- a range object lo, lo + 1, .. below hi -/
  | rng (lo hi : Int)
  /-- a thing that is known to the object (the script; a dict while a loop walks it): read, never written while it is so -/
  | frz (o : Obj) (u : HO)
  /-- a code object's table -/
  | tbl (ps : Array Value)
  /-- any other thing, by what is true of its one object (a def of one's own: SetO a S n := HO.ext fun h => ..) -/
  | ext (φ : Heap → Prop)
abbrev Hp := Addr → Option HO
def upd (H : Hp) (a : Addr) (o : HO) : Hp := fun b => if b = a then some o else H b
theorem upd_same {H : Hp} {a : Addr} {o : HO} : upd H a o a = some o := by unfold upd; rw [if_pos rfl]
theorem upd_ne {H : Hp} {a b : Addr} {o : HO} (h : b ≠ a) : upd H a o b = H b := by unfold upd; rw [if_neg h]
theorem ne_of_none {H : Hp} {a b : Addr} {o : HO} (h : H a = some o) (h' : H b = none) : a ≠ b := by
  intro e; subst e; rw [h] at h'; cases h'
section
variable (P : Program) (w : World)
def ObjOk (H : Hp) (h : Heap) (a : Addr) : HO → Prop
  | .lst xs => xs.length ≤ sizeLine ∧ ∃ (its : List Value) (n : Nat), Vals xs its ∧ h.get? a = some { cls := .type "list", data := .seq its.toArray n }
  | .tup xs => xs.length ≤ sizeLine ∧ ∃ its : List Value, Vals xs its ∧ IsTup h a its.toArray
  | .dK kvs => kvs.length ≤ sizeLine ∧ (a == sysModules) = false ∧ ∃ vs, KV kvs vs ∧ h.DictOf (mixKind P w) a vs
  | .dT kvs => kvs.length ≤ sizeLine ∧ (a == sysModules) = false ∧ ∃ xs : List (List Key × Addr × Value),
      Paired (fun (p : List Key × V) (q : List Key × Addr × Value) => p.1 = q.1 ∧ H q.2.1 = some (.tup (p.1.map kV)) ∧ RelV p.2 q.2.2) kvs xs ∧
      ∃ o es ep, h.get? a = some o ∧ o.ExactDict ∧ o.data = .dict es ep ∧ es.toList = xs.map (entryOfKey (tupleKind (mixKind P w))) ∧ (xs.map (·.1)).Nodup
  | .set S n => h.SetOf (intKind P w) a S n
  | .ins C dx fs => H dx = some (.own a) ∧ fs.length ≤ 1000 ∧ dx ≠ a ∧ h.get? a = some (PySem.W.instObj C dx) ∧
      ∃ mA, h.Ns1 dx mA ∧ (∀ f, RelO (fs.lookup f) (mA f)) ∧ PySem.Within mA (fs.map (·.1))
  | .own _ => ∃ o, h.get? a = some o
  | .xd fs => ∃ mA, h.Ns1 a mA ∧ ∀ f, RelO (fs.lookup f) (mA f)
  | .rng lo hi => ∃ t u v, h.get? a = some { cls := .type "range", data := .fields #[.int lo t, .int hi u, .int 1 v] }
  | .frz o u => h.get? a = some o ∧ ObjOk H h a u
  | .tbl ps => h.get? a = some { cls := .none, data := .fields ps }
  | .met f x => h.get? a = some (PySem.W.methodObj (.ref f) (.ref x))
  | .ext φ => φ h ∧ (∃ o, h.get? a = some o) ∧ ∀ h1 h2 : Heap, φ h1 → (∀ o, h1.get? a = some o → h2.get? a = some o) → φ h2
/-- the abstract heap is held -/
def HOk (H : Hp) (h : Heap) : Prop := ∀ a o, H a = some o → ObjOk P w H h a o
end
section
variable {P : Program} {w : World} {H H' : Hp} {h h' : Heap} {a : Addr} {o : HO}
theorem ObjOk.lt (x : ObjOk P w H h a o) : a < h.objs.size := by
  cases o with
  | lst xs => obtain ⟨_, _, _, _, e⟩ := x; exact Heap.lt_size e
  | tup xs => obtain ⟨_, _, _, p⟩ := x; exact p.lt
  | dK kvs => obtain ⟨_, _, _, _, o, _, _, e, _⟩ := x; exact Heap.lt_size e
  | dT kvs => obtain ⟨_, _, _, _, o, _, _, e, _⟩ := x; exact Heap.lt_size e
  | set S n => obtain ⟨o, _, _, _, e, _⟩ := x; exact Heap.lt_size e
  | ins C dx fs => obtain ⟨_, _, _, e, _⟩ := x; exact Heap.lt_size e
  | own y => obtain ⟨_, e⟩ := x; exact Heap.lt_size e
  | xd fs => obtain ⟨_, ⟨_, _, _, e, _⟩, _⟩ := x; exact Heap.lt_size e
  | rng lo hi => obtain ⟨_, _, _, e⟩ := x; exact Heap.lt_size e
  | frz ob u => obtain ⟨e, _⟩ := x; exact Heap.lt_size e
  | tbl ps => exact Heap.lt_size (show h.get? a = some _ from x)
  | met f y => exact Heap.lt_size (show h.get? a = some _ from x)
  | ext φ => obtain ⟨_, ⟨_, e⟩, _⟩ := x; exact Heap.lt_size e
theorem Paired.mapP {α β : Type} {F G : α → β → Prop} : ∀ {l₁ : List α} {l₂ : List β}, Paired F l₁ l₂ → (∀ a b, F a b → G a b) → Paired G l₁ l₂
  | _, _, .nil, _ => .nil
  | _, _, .cons r t, f => .cons (f _ _ r) (Paired.mapP t f)
/-- what an object's description leans on: its own object, its own dict, the tuples -/
theorem ObjOk.stay (x : ObjOk P w H h a o) (k : ∀ b u, (b = a ∨ H b = some (.own a)) → h.get? b = some u → h'.get? b = some u)
    (ho : ∀ b, H b = some (.own a) → H' b = some (.own a)) (ht : ∀ b xs, H b = some (.tup xs) → H' b = some (.tup xs)) : ObjOk P w H' h' a o := by
  induction o with
  | lst xs => obtain ⟨z, its, n, r, e⟩ := x; exact ⟨z, its, n, r, k _ _ (.inl rfl) e⟩
  | tup xs => obtain ⟨z, its, r, ob, e, c⟩ := x; exact ⟨z, its, r, ob, k _ _ (.inl rfl) e, c⟩
  | dK kvs => obtain ⟨z, y, vs, r, ob, es, ep, e, c⟩ := x; exact ⟨z, y, vs, r, ob, es, ep, k _ _ (.inl rfl) e, c⟩
  | dT kvs =>
    obtain ⟨z, y, xs, r, ob, es, ep, e, c⟩ := x
    exact ⟨z, y, xs, Paired.mapP r fun p q z => ⟨z.1, ht _ _ z.2.1, z.2.2⟩, ob, es, ep, k _ _ (.inl rfl) e, c⟩
  | set S n => obtain ⟨ob, es, ep, t, e, c⟩ := x; exact ⟨ob, es, ep, t, k _ _ (.inl rfl) e, c⟩
  | ins C dx fs =>
    obtain ⟨d, z, ne, e, mA, ⟨od, es, ep, e2, c⟩, r⟩ := x
    exact ⟨ho _ d, z, ne, k _ _ (.inl rfl) e, mA, ⟨od, es, ep, k _ _ (.inr d) e2, c⟩, r⟩
  | own y => obtain ⟨ob, e⟩ := x; exact ⟨ob, k _ _ (.inl rfl) e⟩
  | xd fs => obtain ⟨mA, ⟨od, es, ep, e, c⟩, r⟩ := x; exact ⟨mA, ⟨od, es, ep, k _ _ (.inl rfl) e, c⟩, r⟩
  | rng lo hi => obtain ⟨t, u, v, e⟩ := x; exact ⟨t, u, v, k _ _ (.inl rfl) e⟩
  | frz ob u ih => obtain ⟨e, q⟩ := x; exact ⟨k _ _ (.inl rfl) e, ih q⟩
  | tbl ps =>
    have e : h.get? a = some { cls := .none, data := .fields ps } := x
    show h'.get? a = some { cls := .none, data := .fields ps }
    exact k a _ (.inl rfl) e
  | met f y =>
    have e : h.get? a = some (PySem.W.methodObj (.ref f) (.ref y)) := x
    show h'.get? a = some (PySem.W.methodObj (.ref f) (.ref y))
    exact k a _ (.inl rfl) e
  | ext φ => obtain ⟨p, ⟨o, e⟩, st⟩ := x; exact ⟨st _ _ p fun o q => k _ _ (.inl rfl) q, ⟨o, k _ _ (.inl rfl) e⟩, st⟩
theorem HOk.lt (x : HOk P w H h) (e : H a = some o) : a < h.objs.size := (x a o e).lt
theorem HOk.fresh (x : HOk P w H h) (e : h.objs.size ≤ a) : H a = none := by
  cases q : H a with
  | none => rfl
  | some u => exact absurd (Nat.lt_of_lt_of_le (x.lt q) e) (Nat.lt_irrefl _)
/-- every object of the heap is kept -/
theorem HOk.kept (x : HOk P w H h) (k : ∀ b u, h.get? b = some u → h'.get? b = some u) : HOk P w H h' := fun a o e =>
  (x a o e).stay (fun b u _ q => k b u q) (fun _ q => q) fun _ _ q => q
/-- a new object is laid and tracked -/
theorem HOk.laid (x : HOk P w H h) (k : ∀ b u, h.get? b = some u → h'.get? b = some u) (hp : h.objs.size ≤ a) (new : ObjOk P w (upd H a o) h' a o) : HOk P w (upd H a o) h' := fun b u e => by
  have hn := x.fresh hp
  by_cases hb : b = a
  · subst hb; rw [upd_same] at e; cases e; exact new
  · rw [upd_ne hb] at e
    exact (x b u e).stay (fun c v _ q => k c v q) (fun c q => by rw [upd_ne (ne_of_none q hn)]; exact q) fun c xs q => by rw [upd_ne (ne_of_none q hn)]; exact q
end
/-- what may be read as u: it is u, or a known u -/
def Rd (H : Hp) (a : Addr) (u : HO) : Prop := H a = some u ∨ ∃ o, H a = some (.frz o u)
theorem Rd.of {H : Hp} {a : Addr} {u : HO} (h : H a = some u) : Rd H a u := .inl h
theorem Rd.ok {P : Program} {w : World} {H : Hp} {h : Heap} {a : Addr} {u : HO} (r : Rd H a u) (x : HOk P w H h) : ObjOk P w H h a u := by
  rcases r with r | ⟨o, r⟩
  · exact x a u r
  · obtain ⟨_, q⟩ := x a _ r
    exact q
/-- what may be written -/
def Mut : Option HO → Prop
  | some (.lst _) => True
  | some (.dK _) => True
  | some (.dT _) => True
  | some (.set _ _) => True
  | some (.ins _ _ _) => True
  | some (.ext _) => True
  | _ => False
section
variable {P : Program} {w : World} {H : Hp} {h h' : Heap} {x e : Addr} {o' : HO}
/-- the object at e is changed: x itself, or the dict of the instance x -/
theorem HOk.write (ok : HOk P w H h) (mu : Mut (H x)) (he : e = x ∨ H e = some (.own x)) (k : ∀ b u, b ≠ e → h.get? b = some u → h'.get? b = some u) (heo : ∃ u, h'.get? e = some u)
    (new : ObjOk P w (upd H x o') h' x o') : HOk P w (upd H x o') h' := fun b u q => by
  have nown : ∀ c y, H c = some (.own y) → c ≠ x := fun c y r z => by subst z; rw [r] at mu; exact mu
  have ntup : ∀ c xs, H c = some (.tup xs) → c ≠ x := fun c xs r z => by subst z; rw [r] at mu; exact mu
  by_cases hb : b = x
  · subst hb; rw [upd_same] at q; cases q; exact new
  · rw [upd_ne hb] at q
    by_cases hbe : b = e
    · have q' : H b = some (.own x) := by
        rcases he with z | z
        · exact absurd (hbe.trans z) hb
        · rw [hbe]; exact z
      rw [q] at q'; cases q'
      obtain ⟨v, hv⟩ := heo
      exact ⟨v, by rw [hbe]; exact hv⟩
    · refine (ok b u q).stay (fun c v hc r => k c v ?_ r) (fun c r => by rw [upd_ne (nown c b r)]; exact r) fun c xs r => by rw [upd_ne (ntup c xs r)]; exact r
      rcases hc with rfl | hc
      · exact hbe
      · rintro rfl
        rcases he with z | z
        · exact nown c b hc z
        · rw [hc] at z; cases z; exact hb rfl
end
/-! ### kept unless tracked; of the frames at fs (the callers') the slots may change (an exception that passes writes there); of the records at ex (iterators) nothing is said -/
structure Un (fs ex : List Addr) (H H' : Hp) (h h' : Heap) : Prop where
  keep : ∀ b o, h.get? b = some o → H b = none → b ∉ fs → b ∉ ex → h'.get? b = some o
  slot : ∀ b o, h.get? b = some o → H b = none → b ∈ fs → b ∉ ex → ∃ sl, h'.get? b = some { o with slots := sl }
  free : ∀ b o, h.get? b = some o → H b = none → b ∉ ex → H' b = none
  there : ∀ b o, h.get? b = some o → b ∉ ex → ∃ o', h'.get? b = some o'
  tups : ∀ b xs, H b = some (.tup xs) → H' b = some (.tup xs)
  frzs : ∀ b o u, H b = some (.frz o u) → H' b = some (.frz o u)
  tbls : ∀ b ps, H b = some (.tbl ps) → ∃ more, H' b = some (.tbl (ps ++ more))
section
variable {fs fs' ex ex' : List Addr} {H H1 H2 : Hp} {h h1 h2 h' : Heap} {a x e : Addr} {o : HO}
theorem Un.any (u : Un fs ex H H1 h h1) {b : Addr} {ob : Obj} (q : h.get? b = some ob) (n : H b = none) (hx : b ∉ ex) : ∃ sl, h1.get? b = some { ob with slots := sl } := by
  by_cases hb : b ∈ fs
  · exact u.slot b ob q n hb hx
  · exact ⟨ob.slots, u.keep b ob q n hb hx⟩
theorem Un.trans (a : Un fs ex H H1 h h1) (b : Un fs ex H1 H2 h1 h2) : Un fs ex H H2 h h2 where
  keep := fun c ob q n hc hx => b.keep c ob (a.keep c ob q n hc hx) (a.free c ob q n hx) hc hx
  slot := fun c ob q n hc hx => by
    obtain ⟨sl, e1⟩ := a.slot c ob q n hc hx
    obtain ⟨sl', e2⟩ := b.slot c _ e1 (a.free c ob q n hx) hc hx
    exact ⟨sl', e2⟩
  free := fun c ob q n hx => by
    obtain ⟨o', e1⟩ := a.there c ob q hx
    exact b.free c o' e1 (a.free c ob q n hx) hx
  there := fun c ob q hx => by
    obtain ⟨o', e1⟩ := a.there c ob q hx
    exact b.there c o' e1 hx
  tups := fun c xs q => b.tups c xs (a.tups c xs q)
  frzs := fun c ob xs q => b.frzs c ob xs (a.frzs c ob xs q)
  tbls := fun c ps q => by
    obtain ⟨m1, e1⟩ := a.tbls c ps q
    obtain ⟨m2, e2⟩ := b.tbls c _ e1
    exact ⟨m1 ++ m2, by rw [e2, Array.append_assoc]⟩
theorem Un.kept (k : ∀ b u, h.get? b = some u → h'.get? b = some u) : Un fs ex H H h h' :=
  ⟨fun b ob q _ _ _ => k b ob q, fun b ob q _ _ _ => ⟨ob.slots, k b ob q⟩, fun _ _ _ n _ => n, fun b ob q _ => ⟨ob, k b ob q⟩, fun _ _ q => q, fun _ _ _ q => q, fun _ ps q => ⟨#[], by rw [q]; simp⟩⟩
theorem Un.refl : Un fs ex H H h h := Un.kept fun _ _ q => q
theorem Un.laid (k : ∀ b u, h.get? b = some u → h'.get? b = some u) (hp : h.objs.size ≤ a) (hn : H a = none) : Un fs ex H (upd H a o) h h' where
  keep := fun b u q _ _ _ => k b u q
  slot := fun b u q _ _ _ => ⟨u.slots, k b u q⟩
  free := fun b u q n _ => by rw [upd_ne (Nat.ne_of_lt (Nat.lt_of_lt_of_le (Heap.lt_size q) hp))]; exact n
  there := fun b u q _ => ⟨u, k b u q⟩
  tups := fun b xs q => by rw [upd_ne (ne_of_none q hn)]; exact q
  frzs := fun b u xs q => by rw [upd_ne (ne_of_none q hn)]; exact q
  tbls := fun b ps q => ⟨#[], by rw [upd_ne (ne_of_none q hn), q]; simp⟩
theorem Un.write (mu : Mut (H x)) (he : e = x ∨ H e = some (.own x)) (k : ∀ b u, b ≠ e → h.get? b = some u → h'.get? b = some u) (heo : ∃ u, h'.get? e = some u) : Un fs ex H (upd H x o) h h' := by
  have hx : ∀ b, H b = none → b ≠ x := fun b n z => by subst z; rw [n] at mu; exact mu
  have hb : ∀ b, H b = none → b ≠ e := fun b n z => by
    subst z
    rcases he with r | r
    · exact hx b n r
    · rw [n] at r; cases r
  have hm : ∀ b u, H b = some u → ¬ Mut (some u) → b ≠ x := fun b u q nm z => by subst z; rw [q] at mu; exact nm mu
  refine ⟨fun b u q n _ _ => k b u (hb b n) q, fun b u q n _ _ => ⟨u.slots, k b u (hb b n) q⟩, fun b u q n _ => by rw [upd_ne (hx b n)]; exact n, fun b u q _ => ?_,
    fun b xs q => by rw [upd_ne (hm b _ q fun z => z)]; exact q, fun b u xs q => by rw [upd_ne (hm b _ q fun z => z)]; exact q, fun b ps q => ⟨#[], by rw [upd_ne (hm b _ q fun z => z), q]; simp⟩⟩
  by_cases hbe : b = e
  · subst hbe; exact heo
  · exact ⟨u, k b u hbe q⟩
theorem Un.mono (u : Un fs ex H H1 h h1) (hs : ∀ b ∈ fs, b ∈ fs') (hx : ∀ b ∈ ex, b ∈ ex') : Un fs' ex' H H1 h h1 :=
  ⟨fun b ob q n hb he => u.keep b ob q n (fun z => hb (hs b z)) fun z => he (hx b z), fun _ _ q n _ he => u.any q n fun z => he (hx _ z), fun b ob q n he => u.free b ob q n fun z => he (hx b z), fun b ob q he => u.there b ob q fun z => he (hx b z), u.tups, u.frzs, u.tbls⟩
end
/-! ### the heap without what is tracked -/
def trk (h : Heap) (H : Hp) : List Addr := (List.range h.objs.size).filter fun a => (H a).isSome
def hidT (h : Heap) (H : Hp) : Heap := PySem.W.hideAll h (trk h H)
theorem hidT_size (h : Heap) (H : Hp) : (hidT h H).objs.size = h.objs.size := PySem.W.hideAll_size _ _
theorem hidT_get {h : Heap} {H : Hp} {b : Addr} {o : Obj} (e : h.get? b = some o) (n : H b = none) : (hidT h H).get? b = some o :=
  PySem.W.hideAll_get _ e fun hm => by
    have q : (H b).isSome = true := (List.mem_filter.mp hm).2
    rw [n] at q; simp at q
theorem of_hidT {h : Heap} {H : Hp} {b : Addr} {o : Obj} (e : (hidT h H).get? b = some o) : h.get? b = some o ∧ H b = none := by
  have e' : h.get? b = some o := PySem.W.of_hideAll (trk h H) e
  refine ⟨e', ?_⟩
  cases q : H b with
  | none => rfl
  | some x =>
    have hm : b ∈ trk h H := List.mem_filter.mpr ⟨List.mem_range.mpr (Heap.lt_size e'), by simp [q]⟩
    have z : (hidT h H).get? b = none := PySem.W.hideAll_none (trk h H) hm
    rw [z] at e; cases e
/-! ### OpenK's ledger, filled with every new object but one -/
def allNews (g h : Heap) (L : Addr) : List (Addr × Obj) := (List.range h.objs.size).filterMap fun a => if a = L ∨ (g.get? a).isSome = true then none else (h.get? a).map fun o => (a, o)
def rest (g h : Heap) (L d : Addr) : List (Addr × Obj) := (allNews g h L).filter fun p => decide (p.1 ≠ d)
end L2
namespace L2
open PySem PySem.Spec PyProof.Rows
/-- the module's facts, over the base: the heap at the law's entry without what is tracked there -/
structure Mod (K : PySem.W.Frag) (mg : Str → Option Value) (base : Heap) : Prop where
  kin : K.In base
  glob : base.Ns mainGlobals mg
  blt : ∃ mb, base.Ns builtinsNs mb ∧ ∀ x : Str, x ≠ "__name__" → mb x = bootBuiltins x
  nolimit : base.NoLimit
/-- the context: a def's body (or a comprehension's block) running. base: fixed through the whole law; s₀, H₀: the entry; outer: the frames whose slots others may change (a def's callers); stack: all frames that run;
   ex: iterators that were made ahead of the entry and are walked here (a comprehension's); fn: the names whose cells were made at the entry (a def: all; a comprehension's block: its own); calm: not within an except suite; pn: pins that every state bears; xe: what is wanted of an exception that leaves the code -/
structure Cx where
  prog : Program
  w : World
  K : PySem.W.Frag
  mg : Str → Option Value
  base : Heap
  A : Around
  N : List Str
  s₀ : Shared
  H₀ : Hp
  env : Env
  outer : List Env
  stack : List Env
  ex : List Addr
  fn : Str → Bool
  calm : Bool
  pn : List (Addr × Obj)
  xe : Value → Shared → Prop
/-- the callers' frames -/
def frs (l : List Env) : List Addr := l.filterMap (·.frame)
abbrev Cx.fs (X : Cx) : List Addr := frs X.outer
def Vis (sc : Scope) (x : Str) : Prop := sc.names.lookup x = some .local ∨ sc.names.lookup x = some .cell ∨ sc.names.lookup x = some .free
def Loc (sc : Scope) (x : Str) : Prop := sc.names.lookup x = some .local ∨ sc.names.lookup x = some .cell
def Look (env : Env) (h : Heap) (m : Str → Option Value) (x : Str) (u : Value) : Prop :=
  (env.kindOf x = some .local ∧ m x = some u) ∨ ((env.kindOf x = some .cell ∨ env.kindOf x = some .free) ∧ ∃ c, env.cells.lookup x = some c ∧ h.IsCell c (some u))
structure Cx.Ok (X : Cx) : Prop where
  mod : Mod X.K X.mg X.base
  kind : X.env.scope.kind = .function
  glob : X.env.globals = mainGlobals
  blt : X.env.builtins = builtinsNs
  above : X.s₀.heap.objs.size ≤ X.env.locals
  inj : ∀ x y c, X.env.cells.lookup x = some c → X.env.cells.lookup y = some c → x = y
  has : ∀ x, (X.env.kindOf x = some .cell ∨ X.env.kindOf x = some .free) → ∃ c, X.env.cells.lookup x = some c
  cab : ∀ x c, X.fn x = true → X.env.cells.lookup x = some c → X.s₀.heap.objs.size ≤ c
  hd : X.calm = true → X.A.handled = none
  frames : X.A.frames = some X.stack
  stk : X.stack = X.outer ∨ (X.stack = X.env :: X.outer ∧ X.env.frame = some X.env.locals)
  exf : ∀ b ∈ X.ex, b ≠ X.env.locals ∧ ∀ x c, X.env.cells.lookup x = some c → c ≠ b
  bs : ∀ b o, X.base.get? b = some o → X.s₀.heap.get? b = some o ∧ X.H₀ b = none
  bsz : X.base.objs.size ≤ X.s₀.heap.objs.size
  noex : ∀ b o, X.base.get? b = some o → b ∉ X.ex
  exfs : ∀ b ∈ X.ex, b ∉ X.fs
  funs : X.s₀.heap.FunFrames X.base X.outer
  frf : ∀ b ∈ X.fs, X.H₀ b = none
structure Inv (X : Cx) (pins : List (Addr × Obj)) (σ : List (Option V)) (H : Hp) (s : Shared) : Prop where
  ok : X.Ok
  os : s.os = X.s₀.os
  bare : AllBare s.gens
  base : Un X.fs X.ex X.H₀ H X.s₀.heap s.heap
  loc : ∃ m, s.heap.Ns X.env.locals m ∧ ∀ (i : Nat) (x : Str) (v : V), X.N[i]? = some x → σ[i]? = some (some v) → Vis X.env.scope x → ∃ u, RelV v u ∧ Look X.env s.heap m x u
  cell : ∀ x c, X.env.cells.lookup x = some c → ∃ v, s.heap.IsCell c v
  free : H X.env.locals = none
  freeC : ∀ x c, X.env.cells.lookup x = some c → H c = none
  pin : ∀ p ∈ X.pn ++ pins, s.heap.get? p.1 = some p.2 ∧ H p.1 = none ∧ p.1 ≠ X.env.locals ∧ p.1 ∉ X.fs ∧ ∀ v, p.2.data ≠ .cell v
  hok : HOk X.prog X.w H s.heap
  len : σ.length = X.N.length
section
variable {X : Cx} {pins : List (Addr × Obj)} {σ : List (Option V)} {H H' : Hp} {s : Shared} {h' : Heap}
theorem Cx.Ok.nofr (ok : X.Ok) {b : Addr} {o : Obj} (e : X.base.get? b = some o) : b ∉ X.fs := fun hb => by
  have := (ok.funs.mem hb).1
  rw [e] at this; cases this
theorem Inv.bs (I : Inv X pins σ H s) : ∀ b o, X.base.get? b = some o → s.heap.get? b = some o ∧ H b = none := fun b o e =>
  ⟨I.base.keep b o (I.ok.bs b o e).1 (I.ok.bs b o e).2 (I.ok.nofr e) (I.ok.noex b o e), I.base.free b o (I.ok.bs b o e).1 (I.ok.bs b o e).2 (I.ok.noex b o e)⟩
theorem Inv.bk (I : Inv X pins σ H s) : ∀ b o, X.base.get? b = some o → s.heap.get? b = some o := fun b o e => (I.bs b o e).1
theorem Inv.mod (I : Inv X pins σ H s) : Mod X.K X.mg X.base := I.ok.mod
theorem Inv.kIn (I : Inv X pins σ H s) : X.K.In s.heap := I.ok.mod.kin.keeps I.bk
theorem Inv.nolimit (I : Inv X pins σ H s) : s.heap.NoLimit := I.ok.mod.nolimit.keeps I.bk
/-- the frame over the base: for OpenK's rules (K.In X.base is I.mod.kin) -/
theorem Inv.fr (I : Inv X pins σ H s) : ∃ m, Fr X.base X.env.locals s.heap m :=
  let ⟨m, hn, _⟩ := I.loc
  ⟨m, hn, I.bk, Nat.le_trans I.ok.bsz I.ok.above⟩
theorem Inv.lt (I : Inv X pins σ H s) : X.env.locals < s.heap.objs.size := let ⟨_, hn, _⟩ := I.loc; hn.lt
theorem Inv.sz (I : Inv X pins σ H s) : X.s₀.heap.objs.size ≤ s.heap.objs.size := Nat.le_trans I.ok.above (Nat.le_of_lt I.lt)
theorem Inv.nofs (I : Inv X pins σ H s) {a : Addr} (h : s.heap.objs.size ≤ a) : a ∉ X.fs := fun hb => by
  obtain ⟨_, o, ho, _⟩ := I.ok.funs.mem hb
  exact absurd (Nat.lt_of_lt_of_le (Heap.lt_size ho) (Nat.le_trans I.sz h)) (Nat.lt_irrefl _)
theorem Inv.cne (I : Inv X pins σ H s) : ∀ x c, X.env.cells.lookup x = some c → c ≠ X.env.locals := fun x c e z => by
  obtain ⟨v, o, ho, hd⟩ := I.cell x c e
  obtain ⟨m, ⟨o', es, ep, ho', hd', _⟩, _⟩ := I.loc
  rw [z, ho'] at ho; cases ho; rw [hd'] at hd; cases hd
theorem Inv.funs (I : Inv X pins σ H s) : s.heap.FunFrames X.base X.outer := by
  have all : ∀ (l : List Env), (∀ b ∈ frs l, b ∈ X.fs) → X.s₀.heap.FunFrames X.base l → s.heap.FunFrames X.base l := by
    intro l
    induction l with
    | nil => intro _ _; trivial
    | cons env r ih =>
      intro hs hl
      obtain ⟨hk, ⟨L, o, hf, hn, ho, hd⟩, hr⟩ := hl
      have hL : L ∈ X.fs := hs L (by unfold frs; rw [List.filterMap_cons, hf]; exact List.mem_cons_self)
      obtain ⟨sl, e⟩ := I.base.slot L o ho (I.ok.frf L hL) hL fun z => I.ok.exfs L z hL
      exact ⟨hk, ⟨L, _, hf, hn, e, hd⟩, ih (fun b hb => hs b (by unfold frs; rw [List.filterMap_cons, hf]; exact List.mem_cons_of_mem _ hb)) hr⟩
  exact all X.outer (fun _ hb => hb) I.ok.funs
/-- the frames that run, for a call -/
theorem Inv.stack (I : Inv X pins σ H s) : s.heap.FunFrames X.base X.stack := by
  rcases I.ok.stk with e | ⟨e, hf⟩
  · rw [e]; exact I.funs
  · rw [e]
    obtain ⟨m, hn, _⟩ := I.loc
    refine .cons (by rw [I.ok.kind]; decide) hf hn ?_ I.funs
    exact Heap.get?_none_of_le (Nat.le_trans I.ok.bsz I.ok.above)
theorem Inv.stkSub (I : Inv X pins σ H s) : ∀ b ∈ frs X.stack, b ∈ X.env.locals :: X.fs := fun b hb => by
  rcases I.ok.stk with e | ⟨e, hf⟩
  · rw [e] at hb; exact List.mem_cons_of_mem _ hb
  · rw [e] at hb
    unfold frs at hb
    rw [List.filterMap_cons, hf] at hb
    exact hb
theorem Inv.stkFree (I : Inv X pins σ H s) : ∀ b ∈ frs X.stack, H b = none := fun b hb => by
  rcases List.mem_cons.mp (I.stkSub b hb) with e | hb
  · rw [e]; exact I.free
  · obtain ⟨_, o, ho, _⟩ := I.ok.funs.mem hb
    exact I.base.free b o ho (I.ok.frf b hb) fun z => I.ok.exfs b z hb
/-- THE STEP: the untracked objects but the frame and the records at ch are kept (the callers' frames up to slots), the frame's map is kept, the new abstract heap is held -/
theorem Inv.step {g' : Array GenState} {t' : Nat} {d' : Drawn} {ch : List Addr} (I : Inv X pins σ H s)
    (hch : ∀ b ∈ ch, (b ∈ X.ex ∨ X.s₀.heap.objs.size ≤ b) ∧ b ≠ X.env.locals ∧ (∀ x c, X.env.cells.lookup x = some c → c ≠ b) ∧ ∀ p ∈ X.pn ++ pins, p.1 ≠ b)
    (keep : ∀ b o, b ≠ X.env.locals → b ∉ X.fs → b ∉ ch → s.heap.get? b = some o → H b = none → h'.get? b = some o)
    (slot : ∀ b o, b ≠ X.env.locals → b ∈ X.fs → b ∉ ch → s.heap.get? b = some o → H b = none → ∃ sl, h'.get? b = some { o with slots := sl }) (free : ∀ b o, b ∉ ch → s.heap.get? b = some o → H b = none → H' b = none)
    (there : ∀ b o, b ∉ ch → s.heap.get? b = some o → ∃ o', h'.get? b = some o')
    (tups : ∀ b xs, H b = some (.tup xs) → H' b = some (.tup xs)) (frzs : ∀ b o u, H b = some (.frz o u) → H' b = some (.frz o u)) (tbls : ∀ b ps, H b = some (.tbl ps) → ∃ more, H' b = some (.tbl (ps ++ more)))
    (ns : ∀ m, s.heap.Ns X.env.locals m → h'.Ns X.env.locals m) (hok : HOk X.prog X.w H' h') (hg : AllBare g') :
    Inv X pins σ H' { s with heap := h', gens := g', drawn := d', toks := t' } := by
  have neL : ∀ b o, X.s₀.heap.get? b = some o → b ≠ X.env.locals := fun b o e => Nat.ne_of_lt (Nat.lt_of_lt_of_le (Heap.lt_size e) I.ok.above)
  have neC : ∀ b o, X.s₀.heap.get? b = some o → b ∉ X.ex → b ∉ ch := fun b o e hx hb => by
    rcases (hch b hb).1 with z | z
    · exact hx z
    · exact absurd (Nat.lt_of_lt_of_le (Heap.lt_size e) z) (Nat.lt_irrefl _)
  have cellK : ∀ x c, X.env.cells.lookup x = some c → ∀ v, s.heap.IsCell c v → h'.IsCell c v := fun x c e v ⟨o, ho, hd⟩ => by
    have nch : c ∉ ch := fun z => (hch c z).2.2.1 x c e rfl
    by_cases hc : c ∈ X.fs
    · obtain ⟨sl, q⟩ := slot c o (I.cne x c e) hc nch ho (I.freeC x c e)
      exact ⟨_, q, hd⟩
    · exact ⟨o, keep c o (I.cne x c e) hc nch ho (I.freeC x c e), hd⟩
  refine ⟨I.ok, I.os, hg, ⟨fun b o e n hb hx => ?_, fun b o e n hb hx => ?_, fun b o e n hx => ?_, fun b o e hx => ?_, fun b xs e => tups b xs (I.base.tups b xs e), fun b o xs e => frzs b o xs (I.base.frzs b o xs e), fun b ps e => ?_⟩, ?_, fun x c e => ?_, ?_, fun x c e => ?_, fun p hp => ?_, hok, I.len⟩
  · exact keep b o (neL b o e) hb (neC b o e hx) (I.base.keep b o e n hb hx) (I.base.free b o e n hx)
  · obtain ⟨sl, e1⟩ := I.base.slot b o e n hb hx
    obtain ⟨sl', e2⟩ := slot b _ (neL b o e) hb (neC b o e hx) e1 (I.base.free b o e n hx)
    exact ⟨sl', e2⟩
  · obtain ⟨o', e1⟩ := I.base.there b o e hx
    exact free b o' (neC b o e hx) e1 (I.base.free b o e n hx)
  · obtain ⟨o', e1⟩ := I.base.there b o e hx
    exact there b o' (neC b o e hx) e1
  · obtain ⟨m1, e1⟩ := I.base.tbls b ps e
    obtain ⟨m2, e2⟩ := tbls b _ e1
    exact ⟨m1 ++ m2, by rw [e2, Array.append_assoc]⟩
  · obtain ⟨m, hn, hl⟩ := I.loc
    refine ⟨m, ns m hn, fun i x v e1 e2 e3 => ?_⟩
    obtain ⟨u, r, l⟩ := hl i x v e1 e2 e3
    refine ⟨u, r, ?_⟩
    rcases l with l | ⟨k, c, e, z⟩
    · exact .inl l
    · exact .inr ⟨k, c, e, cellK x c e _ z⟩
  · obtain ⟨v, z⟩ := I.cell x c e
    exact ⟨v, cellK x c e v z⟩
  · obtain ⟨m, ⟨o, _, _, ho, _⟩, _⟩ := I.loc
    exact free _ o (fun z => (hch _ z).2.1 rfl) ho I.free
  · obtain ⟨v, o, ho, hd⟩ := I.cell x c e
    exact free c o (fun z => (hch c z).2.2.1 x c e rfl) ho (I.freeC x c e)
  · obtain ⟨e, n, ne, nf, d⟩ := I.pin p hp
    have nch : p.1 ∉ ch := fun z => (hch p.1 z).2.2.2 p hp rfl
    exact ⟨keep p.1 p.2 ne nf nch e n, free p.1 p.2 nch e n, ne, nf, d⟩
/-- .. where the frame's own object is kept too -/
theorem Inv.un {t' : Nat} (I : Inv X pins σ H s) (u : Un X.fs [] H H' s.heap h') (hok : HOk X.prog X.w H' h') : Inv X pins σ H' { s with heap := h', toks := t' } := by
  obtain ⟨m, ⟨o, es, ep, ho, r⟩, _⟩ := id I.loc
  obtain ⟨sl, hL⟩ := u.any ho I.free (by simp)
  exact I.step (g' := s.gens) (d' := s.drawn) (ch := []) (fun _ z => nomatch z) (fun b o _ hb _ e n => u.keep b o e n hb (by simp)) (fun b o _ hb _ e n => u.slot b o e n hb (by simp)) (fun b o _ e n => u.free b o e n (by simp)) (fun b o _ e => u.there b o e (by simp)) u.tups u.frzs u.tbls (fun m' hm => by
    obtain ⟨o', es', ep', ho', r'⟩ := hm
    rw [ho] at ho'; cases ho'
    exact ⟨_, es', ep', hL, r'⟩) hok I.bare
/-- behind a call (or a comprehension's block): the slots of this frame may have changed too, the records at ch may have turned -/
theorem Inv.call {g' : Array GenState} {t' : Nat} {d' : Drawn} {ch : List Addr} (I : Inv X pins σ H s) (u : Un (frs X.stack) ch H H' s.heap h') (hok : HOk X.prog X.w H' h') (hg : AllBare g')
    (hch : ∀ b ∈ ch, (b ∈ X.ex ∨ X.s₀.heap.objs.size ≤ b) ∧ b ≠ X.env.locals ∧ (∀ x c, X.env.cells.lookup x = some c → c ≠ b) ∧ ∀ p ∈ X.pn ++ pins, p.1 ≠ b) :
    Inv X pins σ H' { s with heap := h', gens := g', drawn := d', toks := t' } := by
  obtain ⟨m, ⟨o, es, ep, ho, r⟩, _⟩ := id I.loc
  obtain ⟨sl, hL⟩ := u.any ho I.free fun z => (hch _ z).2.1 rfl
  exact I.step (ch := ch) hch (fun b o hL hb hc e n => u.keep b o e n (fun z => (List.mem_cons.mp (I.stkSub b z)).elim hL hb) hc) (fun b o _ _ hc e n => u.any e n hc) (fun b o hc e n => u.free b o e n hc) (fun b o hc e => u.there b o e hc) u.tups u.frzs u.tbls (fun m' hm => by
    obtain ⟨o', es', ep', ho', r'⟩ := hm
    rw [ho] at ho'; cases ho'
    exact ⟨_, es', ep', hL, r'⟩) hok hg
/-- an untracked record of ours (an iterator) has turned -/
theorem Inv.turned {t' : Nat} {it : Addr} (I : Inv X pins σ H s) (k : ∀ b o, b ≠ it → s.heap.get? b = some o → h'.get? b = some o) (hn : H it = none) (hL : it ≠ X.env.locals)
    (h1 : it ∈ X.ex ∨ X.s₀.heap.objs.size ≤ it) (h2 : ∀ x c, X.env.cells.lookup x = some c → c ≠ it) (h3 : ∀ p ∈ X.pn ++ pins, p.1 ≠ it) : Inv X pins σ H { s with heap := h', toks := t' } := by
  have nit : ∀ b u, H b = some u → b ≠ it := fun b u e z => by rw [z, hn] at e; cases e
  refine I.step (g' := s.gens) (d' := s.drawn) (ch := [it]) (fun b hb => ?_) (fun b o _ _ hc e _ => k b o (fun z => hc (by simp [z])) e) (fun b o _ _ hc e _ => ⟨o.slots, k b o (fun z => hc (by simp [z])) e⟩) (fun _ _ _ _ n => n)
    (fun b o hc e => ⟨o, k b o (fun z => hc (by simp [z])) e⟩) (fun _ _ e => e) (fun _ _ _ e => e) (fun b ps e => ⟨#[], by rw [e]; simp⟩) (fun m hm => ?_) (fun b u e => ?_) I.bare
  · have e : b = it := by simpa using hb
    subst e
    exact ⟨h1, hL, h2, h3⟩
  · obtain ⟨o, es, ep, ho, r⟩ := hm
    exact ⟨o, es, ep, k _ o (Ne.symm hL) ho, r⟩
  · refine (I.hok b u e).stay (fun c v hc q => k c v ?_ q) (fun _ q => q) fun _ _ q => q
    rcases hc with z | z
    · rw [z]; exact nit b u e
    · exact nit c _ z
theorem Inv.tok (I : Inv X pins σ H s) (t : Nat) : Inv X pins σ H { s with toks := t } := I.un (h' := s.heap) (t' := t) Un.refl I.hok
/-- all objects kept -/
theorem Inv.kept {t' : Nat} (I : Inv X pins σ H s) (k : ∀ b u, s.heap.get? b = some u → h'.get? b = some u) : Inv X pins σ H { s with heap := h', toks := t' } := I.un (Un.kept k) (I.hok.kept k)
/-- a new object laid and tracked -/
theorem Inv.laid {a : Addr} {o : HO} {t' : Nat} (I : Inv X pins σ H s) (k : ∀ b u, s.heap.get? b = some u → h'.get? b = some u) (hp : s.heap.objs.size ≤ a) (new : ObjOk X.prog X.w (upd H a o) h' a o) :
    Inv X pins σ (upd H a o) { s with heap := h', toks := t' } := I.un (Un.laid k hp (I.hok.fresh hp)) (I.hok.laid k hp new)
/-- an object written -/
theorem Inv.write {x e : Addr} {o : HO} {t' : Nat} (I : Inv X pins σ H s) (mu : Mut (H x)) (he : e = x ∨ H e = some (.own x)) (k : ∀ b u, b ≠ e → s.heap.get? b = some u → h'.get? b = some u) (heo : ∃ u, h'.get? e = some u)
    (new : ObjOk X.prog X.w (upd H x o) h' x o) : Inv X pins σ (upd H x o) { s with heap := h', toks := t' } := I.un (Un.write mu he k heo) (I.hok.write mu he k heo new)
theorem Inv.pins_of {pins' : List (Addr × Obj)} (I : Inv X pins σ H s) (h : ∀ p ∈ pins', s.heap.get? p.1 = some p.2 ∧ H p.1 = none ∧ p.1 ≠ X.env.locals ∧ p.1 ∉ X.fs ∧ ∀ v, p.2.data ≠ .cell v) : Inv X pins' σ H s :=
  ⟨I.ok, I.os, I.bare, I.base, I.loc, I.cell, I.free, I.freeC, fun p hp => (List.mem_append.mp hp).elim (fun z => I.pin p (List.mem_append_left _ z)) (h p), I.hok, I.len⟩
theorem nodup_ix {N : List Str} (hN : N.Nodup) {i j : Nat} {x : Str} (a : N[i]? = some x) (b : N[j]? = some x) : i = j := by
  obtain ⟨h1, e1⟩ := List.getElem?_eq_some_iff.mp a
  obtain ⟨h2, e2⟩ := List.getElem?_eq_some_iff.mp b
  exact (List.getElem_inj hN).mp (e1.trans e2.symm)
/-- a name is stored; what changed -/
theorem store_ok2 {M : Model} {A : Around} {E : Value → Shared → Prop} {i : Nat} {x : Str} {v : V} {u : Value} {Q : Unit → Shared → Prop} (I : Inv X pins σ H s) (hN : X.N.Nodup) (hi : X.N[i]? = some x) (hx : Loc X.env.scope x) (r : RelV v u)
    (h : ∀ s', Inv X pins (σ.set i (some v)) H s' → (∃ a, Heap.SameBut a s.heap s'.heap ∧ (a = X.env.locals ∨ X.env.cells.lookup x = some a)) → Q () s') (hf : X.fn x = true ∨ X.env.scope.names.lookup x = some .local := by first | exact .inl rfl | exact .inr rfl | assumption) : wpAny M A (storeName X.env x u) Q E s := by
  obtain ⟨m, hn, hl⟩ := id I.loc
  have hcls : (X.env.scope.kind == .class || (X.env.scope.kind == .module && X.env.locals != X.env.globals)) = false := by rw [I.ok.kind]; rfl
  have hiσ : i < σ.length := by rw [I.len]; exact (List.getElem?_eq_some_iff.mp hi).1
  have cne := I.cne
  have tracked : ∀ {a : Addr} {h' : Heap}, (∃ o, s.heap.get? a = some o ∧ H a = none) → Heap.SameBut a s.heap h' → HOk X.prog X.w H h' := fun {a h'} ha hs b ob e => by
    obtain ⟨_, _, hfree⟩ := ha
    refine (I.hok b ob e).stay (fun c w' hc q => (hs.2 c ?_).trans q) (fun _ q => q) fun _ _ q => q
    rintro rfl
    rcases hc with rfl | hc
    · rw [hfree] at e; cases e
    · rw [hfree] at hc; cases hc
  rcases hx with hk | hk
  · refine wpAny_storeName_local hk hn (fun h' hn' hs => ?_) hcls
    obtain ⟨oL, _, _, hoL, _⟩ := id hn
    refine h _ ⟨I.ok, I.os, I.bare, ⟨fun b o e n hb hx => ?_, fun b o e n hb hx => ?_, I.base.free, fun b o e hx => ?_, I.base.tups, I.base.frzs, I.base.tbls⟩, ⟨_, hn', fun j y v' e1 e2 e3 => ?_⟩, fun y c e => ?_, I.free, I.freeC, fun p hp => ?_, tracked ⟨oL, hoL, I.free⟩ hs, by simpa using I.len⟩ ⟨_, hs, .inl rfl⟩
    · exact (hs.2 b (Nat.ne_of_lt (Nat.lt_of_lt_of_le (Heap.lt_size e) I.ok.above))).trans (I.base.keep b o e n hb hx)
    · obtain ⟨sl, e1⟩ := I.base.slot b o e n hb hx
      exact ⟨sl, (hs.2 b (Nat.ne_of_lt (Nat.lt_of_lt_of_le (Heap.lt_size e) I.ok.above))).trans e1⟩
    · obtain ⟨o', e1⟩ := I.base.there b o e hx
      exact ⟨o', (hs.2 b (Nat.ne_of_lt (Nat.lt_of_lt_of_le (Heap.lt_size e) I.ok.above))).trans e1⟩
    · by_cases hj : j = i
      · subst hj
        rw [hi] at e1; cases e1
        rw [List.getElem?_set_self hiσ] at e2
        cases e2
        exact ⟨u, r, .inl ⟨hk, by simp⟩⟩
      · rw [List.getElem?_set_ne (Ne.symm hj)] at e2
        obtain ⟨u', r', q⟩ := hl j y v' e1 e2 e3
        refine ⟨u', r', ?_⟩
        rcases q with ⟨k, e⟩ | ⟨k, c, e, z⟩
        · refine .inl ⟨k, ?_⟩
          have : y ≠ x := fun e => hj (nodup_ix hN e1 (e ▸ hi))
          simp [this, e]
        · exact .inr ⟨k, c, e, z.sameBut hs (cne y c e)⟩
    · obtain ⟨w', z⟩ := I.cell y c e
      exact ⟨w', z.sameBut hs (cne y c e)⟩
    · obtain ⟨e, n, ne, nf, d⟩ := I.pin p hp
      exact ⟨(hs.2 p.1 ne).trans e, n, ne, nf, d⟩
  · have hfn : X.fn x = true := by
      rcases hf with z | z
      · exact z
      · rw [z] at hk; cases hk
    obtain ⟨c, hc⟩ := I.ok.has x (.inl hk)
    obtain ⟨w', z⟩ := I.cell x c hc
    refine wpAny_storeName_cell I.ok.kind hk hc z (fun h' hc' hs => ?_)
    obtain ⟨oc, hoc, hocd⟩ := id z
    refine h { s with heap := h' } ⟨I.ok, I.os, I.bare, ⟨fun b o e n hb hx => ?_, fun b o e n hb hx => ?_, I.base.free, fun b o e hx => ?_, I.base.tups, I.base.frzs, I.base.tbls⟩, ⟨m, hn.sameBut hs (Ne.symm (cne x c hc)), fun j y v' e1 e2 e3 => ?_⟩, fun y c' e => ?_, I.free, I.freeC, fun p hp => ?_, tracked ⟨oc, hoc, I.freeC x c hc⟩ hs, by simpa using I.len⟩ ⟨c, hs, .inr hc⟩
    · exact (hs.2 b (Nat.ne_of_lt (Nat.lt_of_lt_of_le (Heap.lt_size e) (I.ok.cab x c hfn hc)))).trans (I.base.keep b o e n hb hx)
    · obtain ⟨sl, e1⟩ := I.base.slot b o e n hb hx
      exact ⟨sl, (hs.2 b (Nat.ne_of_lt (Nat.lt_of_lt_of_le (Heap.lt_size e) (I.ok.cab x c hfn hc)))).trans e1⟩
    · obtain ⟨o', e1⟩ := I.base.there b o e hx
      exact ⟨o', (hs.2 b (Nat.ne_of_lt (Nat.lt_of_lt_of_le (Heap.lt_size e) (I.ok.cab x c hfn hc)))).trans e1⟩
    · by_cases hj : j = i
      · subst hj
        rw [hi] at e1; cases e1
        rw [List.getElem?_set_self hiσ] at e2
        cases e2
        exact ⟨u, r, .inr ⟨.inl hk, c, hc, hc'⟩⟩
      · rw [List.getElem?_set_ne (Ne.symm hj)] at e2
        obtain ⟨u', r', q⟩ := hl j y v' e1 e2 e3
        refine ⟨u', r', ?_⟩
        rcases q with q | ⟨k, c', e, z'⟩
        · exact .inl q
        · refine .inr ⟨k, c', e, z'.sameBut hs ?_⟩
          rintro rfl
          exact hj (nodup_ix hN e1 (I.ok.inj _ _ _ e hc ▸ hi))
    · by_cases hcc : c' = c
      · subst hcc; exact ⟨_, hc'⟩
      · obtain ⟨w2, z2⟩ := I.cell y c' e
        exact ⟨w2, z2.sameBut hs hcc⟩
    · obtain ⟨e, n, ne, nf, d⟩ := I.pin p hp
      refine ⟨(hs.2 p.1 ?_).trans e, n, ne, nf, d⟩
      intro q
      rw [q, hoc] at e
      have q' : oc = p.2 := Option.some.inj e
      exact d w' (by rw [← q']; exact hocd)
theorem store_ok {M : Model} {A : Around} {E : Value → Shared → Prop} {i : Nat} {x : Str} {v : V} {u : Value} {Q : Unit → Shared → Prop} (I : Inv X pins σ H s) (hN : X.N.Nodup) (hi : X.N[i]? = some x) (hx : Loc X.env.scope x) (r : RelV v u)
    (h : ∀ s', Inv X pins (σ.set i (some v)) H s' → Q () s') (hf : X.fn x = true ∨ X.env.scope.names.lookup x = some .local := by first | exact .inl rfl | exact .inr rfl | assumption) : wpAny M A (storeName X.env x u) Q E s :=
  store_ok2 I hN hi hx r (fun s' I' _ => h s' I') hf
/-- behind a call or a block, the state as it is -/
theorem Inv.call' {s' : Shared} {ch : List Addr} (I : Inv X pins σ H s) (ho : s'.os = s.os) (u : Un (frs X.stack) ch H H' s.heap s'.heap) (hok : HOk X.prog X.w H' s'.heap) (hg : AllBare s'.gens)
    (hch : ∀ b ∈ ch, (b ∈ X.ex ∨ X.s₀.heap.objs.size ≤ b) ∧ b ≠ X.env.locals ∧ (∀ x c, X.env.cells.lookup x = some c → c ≠ b) ∧ ∀ p ∈ X.pn ++ pins, p.1 ≠ b) : Inv X pins σ H' s' := by
  obtain ⟨h', g', d', t', o'⟩ := s'
  have e : o' = s.os := ho
  subst e
  exact I.call (g' := g') (t' := t') (d' := d') u hok hg hch
end
/-! ### the judgements -/
/-- an exception: its class, its own dict's address (where it has one), the abstract heap behind it -/
abbrev XK := Value → Option Addr → Hp → Prop
abbrev St := List (Option V)
abbrev VK := V → Hp → Prop
/-- an expression's reading; a test's; an argument list's -/
abbrev TE := St → Hp → VK → Prop
abbrev TT := St → Hp → (Bool → Hp → Prop) → Prop
abbrev TA := St → Hp → (List V → Hp → Prop) → Prop
/-- what is wanted behind a statement -/
structure Ends where
  nx : St → Hp → Prop
  rt : VK
  bk : St → Hp → Prop := fun _ _ => False
  ct : St → Hp → Prop := fun _ _ => False
abbrev TS := Ends → St → Hp → Prop
def EP (X : Cx) (pins : List (Addr × Obj)) (σ : St) (Q : VK) (u : Value) (s' : Shared) : Prop := ∃ v H', Inv X pins σ H' s' ∧ RelV v u ∧ Q v H'
def TP (X : Cx) (pins : List (Addr × Obj)) (σ : St) (Q : Bool → Hp → Prop) (b : Bool) (s' : Shared) : Prop := ∃ H', Inv X pins σ H' s' ∧ Q b H'
def AP (X : Cx) (pins : List (Addr × Obj)) (σ : St) (Q : List V → Hp → Prop) (us : List Value) (s' : Shared) : Prop := ∃ vs H', Inv X pins σ H' s' ∧ Vals vs us ∧ Q vs H'
def SP (X : Cx) (pins : List (Addr × Obj)) (D : Ends) (f : Flow) (s' : Shared) : Prop :=
  match f with
  | .next => ∃ σ' H', Inv X pins σ' H' s' ∧ D.nx σ' H'
  | .brk => ∃ σ' H', Inv X pins σ' H' s' ∧ D.bk σ' H'
  | .cont => ∃ σ' H', Inv X pins σ' H' s' ∧ D.ct σ' H'
  | .ret u => ∃ v σ' H', Inv X pins σ' H' s' ∧ RelV v u ∧ D.rt v H'
def PE (X : Cx) (e : Expr) (t : TE) : Prop :=
  ∀ (pins : List (Addr × Obj)) (s : Shared) (σ : St) (H : Hp) (Q : VK), Inv X pins σ H s → t σ H Q → wpAny (model X.prog X.w) X.A (eval e X.env) (EP X pins σ Q) X.xe s
def PT (X : Cx) (e : Expr) (t : TT) : Prop :=
  ∀ (pins : List (Addr × Obj)) (s : Shared) (σ : St) (H : Hp) (Q : Bool → Hp → Prop), Inv X pins σ H s → t σ H Q → wpAny (model X.prog X.w) X.A (isTrue e X.env (eval e X.env)) (TP X pins σ Q) X.xe s
/-- a test whatever its 'whole' is (and, or) -/
def PW (X : Cx) (e : Expr) (t : TT) : Prop :=
  ∀ (whole : Sem Value) (pins : List (Addr × Obj)) (s : Shared) (σ : St) (H : Hp) (Q : Bool → Hp → Prop), Inv X pins σ H s → t σ H Q → wpAny (model X.prog X.w) X.A (isTrue e X.env whole) (TP X pins σ Q) X.xe s
theorem PW.pt {X : Cx} {e : Expr} {t : TT} (h : PW X e t) : PT X e t := h _
/-- an argument list (no star), from the left -/
def PA (X : Cx) (es : List Expr) (t : TA) : Prop :=
  ∀ (pos : Pos) (pins : List (Addr × Obj)) (s : Shared) (σ : St) (H : Hp) (Q : List V → Hp → Prop), Inv X pins σ H s → t σ H Q → wpAny (model X.prog X.w) X.A (spliced (backTo pos (starEach es X.env))) (AP X pins σ Q) X.xe s
def PS (X : Cx) (st : Stmt) (t : TS) : Prop :=
  ∀ (pins : List (Addr × Obj)) (s : Shared) (σ : St) (H : Hp) (D : Ends), Inv X pins σ H s → t D σ H → wpAny (model X.prog X.w) X.A (exec st X.env) (SP X pins D) X.xe s
def PSs (X : Cx) (st : List Stmt) (t : TS) : Prop :=
  ∀ (pins : List (Addr × Obj)) (s : Shared) (σ : St) (H : Hp) (D : Ends), Inv X pins σ H s → t D σ H → wpAny (model X.prog X.w) X.A (execs st X.env) (SP X pins D) X.xe s
/-- weaken the end -/
theorem thn {α : Type} {t : Sem α} {Q Q' : α → Shared → Prop} {M : Model} {A : Around} {E : Value → Shared → Prop} {s : Shared} (h : wpAny M A t Q E s) (hQ : ∀ a s, Q a s → Q' a s) : wpAny M A t Q' E s := wpAny_mono h hQ fun _ _ x => x
end L2
namespace L2
open PySem PySem.Spec PyProof.Rows
section
variable {X : Cx}
/-! ### names and constants -/
def tVar (i : Nat) : TE := fun σ H Q => ∃ v, σ[i]? = some (some v) ∧ Q v H
def tC (v : V) : TE := fun _ H Q => Q v H
theorem pe_var {i : Nat} {x : Str} {pos : Pos} (hN : X.N[i]? = some x) (hv : Vis X.env.scope x) (hd : (x == ("__debug__" : Str)) = false := by decide) (hcd : (x == ("__classdict__" : Str)) = false := by decide) : PE X (.Name x pos) (tVar i) := by
  intro pins s σ H Q I h
  obtain ⟨v, e, h⟩ := h
  obtain ⟨m, hn, hl⟩ := I.loc
  obtain ⟨u, r, l⟩ := hl i x v hN e hv
  have fin : EP X pins σ Q u s := ⟨v, H, I, r, h⟩
  rcases l with ⟨hk, hm⟩ | ⟨hk, c, hc, hcell⟩
  · exact wpAny_Name (wpAny_loadName_local I.ok.kind hk hn hm fin) hd
  · rcases hk with hk | hk
    · exact wpAny_Name (wpAny_loadName_cell I.ok.kind hk hc hcell fin) hd
    · exact wpAny_Name (wpAny_loadName_free I.ok.kind hk hc hcell fin hcd) hd
theorem pe_int {i j pos} : PE X (.Constant (.int i) j pos) (tC (.int i)) := fun _ _ _ H _ I h => wpAny_Constant_int ⟨.int i, H, I.tok _, ⟨_, rfl⟩, h⟩
theorem pe_bl {b j pos} : PE X (.Constant (.bool b) j pos) (tC (.bl b)) := fun _ _ _ H _ I h => Constant_bool ⟨.bl b, H, I, rfl, h⟩
theorem pe_str {x j pos} : PE X (.Constant (.str x) j pos) (tC (.str x)) := fun _ _ _ H _ I h => Calls.Constant_str ⟨.str x, H, I.tok _, ⟨_, rfl⟩, h⟩
/-- a global name of the def -/
def Gl (X : Cx) (x : Str) : Prop := X.env.kindOf x = some .globalImplicit
theorem ld_glob {E : Value → Shared → Prop} {pins : List (Addr × Obj)} {s : Shared} {σ : St} {H : Hp} {x : Str} {u : Value} {pos : Pos} {Q : Value → Shared → Prop} (I : Inv X pins σ H s) (hg : Gl X x) (hm : X.mg x = some u) (h : Q u s)
    (hd : (x == ("__debug__" : Str)) = false := by decide) : wpAny (model X.prog X.w) X.A (eval (.Name x pos) X.env) Q E s :=
  Calls.Name_function_global I.ok.kind hg (Calls.loadGlobal_global (by rw [I.ok.glob]; exact I.mod.glob.keeps I.bk) hm h) hd
theorem ld_blt {E : Value → Shared → Prop} {pins : List (Addr × Obj)} {s : Shared} {σ : St} {H : Hp} {x : Str} {u : Value} {pos : Pos} {Q : Value → Shared → Prop} (I : Inv X pins σ H s) (hg : Gl X x) (hm : X.mg x = none) (hv : bootBuiltins x = some u) (h : Q u s)
    (hn : x ≠ "__name__" := by decide) (hd : (x == ("__debug__" : Str)) = false := by decide) : wpAny (model X.prog X.w) X.A (eval (.Name x pos) X.env) Q E s := by
  obtain ⟨mb, h1, h2⟩ := I.mod.blt
  exact Calls.Name_function_global I.ok.kind hg (Calls.loadGlobal_builtin (by rw [I.ok.glob]; exact I.mod.glob.keeps I.bk) hm (by rw [I.ok.blt]; exact h1.keeps I.bk) ((h2 x hn).trans hv) h) hd
theorem pe_bltn {x : Str} {v : V} {u : Value} {pos : Pos} (hg : Gl X x) (hm : X.mg x = none) (hv : bootBuiltins x = some u) (r : RelV v u) (hn : x ≠ "__name__" := by decide) (hd : (x == ("__debug__" : Str)) = false := by decide) : PE X (.Name x pos) (tC v) :=
  fun _ _ _ H _ I h => ld_blt I hg hm hv ⟨v, H, I, r, h⟩ hn hd
variable {a b : Expr} {ta tb : TE} {pos : Pos}
/-- a comparison as a value, as a test -/
def tB (t : TE) : TT := fun σ H Q => t σ H fun x H1 => ∃ c, x = .bl c ∧ Q c H1
/-- an expression whose value is a bool, as a test -/
theorem pt_val {e : Expr} {t : TE} (h : PE X e t) (he : ∀ whole, isTrue e X.env whole = (do let v ← whole; standAt e.pos; holding [v] (truthy v)) := by intro _; rfl) : PT X e (tB t) := by
  intro pins s σ H Q I hw
  refine isTrue_plain (thn (h pins s σ H _ I hw) fun v s1 ⟨x, H1, I1, r1, q1⟩ => ?_) (he _)
  obtain ⟨d, rfl, q⟩ := q1
  cases r1
  exact wpAny_truthy_bool ⟨H1, I1, q⟩
/-! ### and, or, not -/
variable {tA tB' : TT} {rest : List Expr}
def tAnd (t u : TT) : TT := fun σ H Q => t σ H fun c H1 => if c = true then u σ H1 Q else Q false H1
def tOr (t u : TT) : TT := fun σ H Q => t σ H fun c H1 => if c = true then Q true H1 else u σ H1 Q
def tNot (t : TT) : TT := fun σ H Q => t σ H fun c H1 => Q (!c) H1
theorem pw_and1 (ha : PT X a tA) : PW X (.BoolOp .And [a] pos) tA := by
  intro wh pins s σ H Q I h
  refine isTrue_and (thn (ha pins s σ H Q I h) fun c s1 e => ?_)
  cases c with
  | true => exact isTrue_and_nil e
  | false => exact e
theorem pw_or1 (ha : PT X a tA) : PW X (.BoolOp .Or [a] pos) tA := by
  intro wh pins s σ H Q I h
  refine isTrue_or (thn (ha pins s σ H Q I h) fun c s1 e => ?_)
  cases c with
  | false => exact isTrue_or_nil e
  | true => exact e
theorem pw_and (ha : PT X a tA) (hb : PW X (.BoolOp .And (b :: rest) pos) tB') : PW X (.BoolOp .And (a :: b :: rest) pos) (tAnd tA tB') := by
  intro wh pins s σ H Q I h
  refine isTrue_and (thn (ha pins s σ H _ I h) fun c s1 ⟨H1, I1, q1⟩ => ?_)
  cases c with
  | true => exact hb wh pins s1 σ H1 Q I1 q1
  | false => exact ⟨H1, I1, q1⟩
theorem pw_or (ha : PT X a tA) (hb : PW X (.BoolOp .Or (b :: rest) pos) tB') : PW X (.BoolOp .Or (a :: b :: rest) pos) (tOr tA tB') := by
  intro wh pins s σ H Q I h
  refine isTrue_or (thn (ha pins s σ H _ I h) fun c s1 ⟨H1, I1, q1⟩ => ?_)
  cases c with
  | true => exact ⟨H1, I1, q1⟩
  | false => exact hb wh pins s1 σ H1 Q I1 q1
theorem pt_not (ha : PT X a tA) : PT X (.UnaryOp .Not a pos) (tNot tA) := by
  intro pins s σ H Q I h
  exact isTrue_not (ha pins s σ H (fun c H1 => Q (!c) H1) I h)
/-- .. as values (bools) -/
def tAndV (ta tb : TE) : TE := fun σ H Q => ta σ H fun x H1 => ∃ c, x = .bl c ∧ if c = true then tb σ H1 Q else Q (.bl false) H1
def tOrV (ta tb : TE) : TE := fun σ H Q => ta σ H fun x H1 => ∃ c, x = .bl c ∧ if c = true then Q (.bl true) H1 else tb σ H1 Q
def tNotV (ta : TE) : TE := fun σ H Q => ta σ H fun x H1 => ∃ c, x = .bl c ∧ Q (.bl (!c)) H1
/-- a if t else b -/
def tIf (t : TT) (ta tb : TE) : TE := fun σ H Q => t σ H fun c H1 => if c = true then ta σ H1 Q else tb σ H1 Q
end
end L2
namespace L2
open PySem PySem.Spec PyProof.Rows
/-! ### a list, a tuple that is read: tracked, frozen, or an object of the module -/
def SqL (K : PySem.W.Frag) (H : Hp) (a : Addr) (xs : List V) : Prop :=
  Rd H a (.lst xs) ∨
    ∃ (o : Obj) (its : Array Value) (n : Nat), K.lookup a = some o ∧ o.cls = .type "list" ∧ o.dict = none ∧ o.data = .seq its n ∧ its.size ≤ sizeLine ∧ Vals xs its.toList
def SqT (K : PySem.W.Frag) (H : Hp) (a : Addr) (xs : List V) : Prop :=
  Rd H a (.tup xs) ∨
    ∃ (o : Obj) (its : Array Value) (n : Nat), K.lookup a = some o ∧ o.cls = .type "tuple" ∧ o.data = .seq its n ∧ its.size ≤ sizeLine ∧ Vals xs its.toList
def absV : Value → Option V
  | .none => some .non
  | .bool b => some (.bl b)
  | .int i _ => some (.int i)
  | .str x _ => some (.str x)
  | .bytes b _ => some (.byt b)
  | .float b _ => some (.flt b)
  | .ref a => some (.ref a)
  | .type n => some (.ty n)
  | _ => none
theorem RelV.abs {x : V} {u : Value} (r : RelV x u) : absV u = some x := by
  cases x with
  | non => cases r; rfl
  | bl _ => cases r; rfl
  | int _ => obtain ⟨t, rfl⟩ := r; rfl
  | str _ => obtain ⟨t, rfl⟩ := r; rfl
  | byt _ => obtain ⟨t, rfl⟩ := r; rfl
  | flt _ => obtain ⟨t, rfl⟩ := r; rfl
  | ref _ => cases r; rfl
  | ty _ => cases r; rfl
theorem RelV.inj {x y : V} {u : Value} (r : RelV x u) (q : RelV y u) : x = y := Option.some.inj (r.abs.symm.trans q.abs)
theorem Vals.inj : ∀ {xs ys : List V} {us : List Value}, Vals xs us → Vals ys us → xs = ys
  | _, _, _, .nil, .nil => rfl
  | _, _, _, .cons r t, .cons r' t' => by rw [r.inj r', Vals.inj t t']
section
variable {X : Cx} {pins : List (Addr × Obj)} {σ : St} {H : Hp} {s : Shared} {a : Addr} {xs ys : List V}
theorem SqL.of {K : PySem.W.Frag} (h : H a = some (.lst xs)) : SqL K H a xs := .inl (.inl h)
theorem SqT.of {K : PySem.W.Frag} (h : H a = some (.tup xs)) : SqT K H a xs := .inl (.inl h)
theorem Inv.list (I : Inv X pins σ H s) (h : SqL X.K H a xs) : ∃ its : List Value, Vals xs its ∧ PlainL s.heap a its.toArray ∧ xs.length ≤ sizeLine := by
  rcases h with h | ⟨o, its, n, hk, hc, hd, hs, hz, r⟩
  · obtain ⟨z, its, n, r, e⟩ := h.ok I.hok
    exact ⟨its, r, ⟨_, n, e, rfl, rfl, rfl⟩, z⟩
  · refine ⟨its.toList, r, ⟨o, n, I.kIn a o hk, hc, hd, by simpa using hs⟩, ?_⟩
    have e := r.length
    simp only [Array.length_toList] at e
    omega
theorem Inv.tuple (I : Inv X pins σ H s) (h : SqT X.K H a xs) : ∃ its : List Value, Vals xs its ∧ IsTup s.heap a its.toArray ∧ xs.length ≤ sizeLine := by
  rcases h with h | ⟨o, its, n, hk, hc, hs, hz, r⟩
  · obtain ⟨z, its, r, p⟩ := h.ok I.hok
    exact ⟨its, r, p, z⟩
  · refine ⟨its.toList, r, ⟨o, I.kIn a o hk, hc, n, by simpa using hs⟩, ?_⟩
    have e := r.length
    simp only [Array.length_toList] at e
    omega
theorem Inv.list_inj (I : Inv X pins σ H s) (h : SqL X.K H a xs) (h' : SqL X.K H a ys) : xs = ys := by
  obtain ⟨its, r, ⟨o, n, e, _, _, d⟩, _⟩ := I.list h
  obtain ⟨its', r', ⟨o', n', e', _, _, d'⟩, _⟩ := I.list h'
  rw [e] at e'; cases e'
  rw [d] at d'
  injection d' with d1 _
  have : its = its' := by simpa using congrArg Array.toList d1
  subst this
  exact r.inj r'
end
/-! ### another wish about exceptions -/
abbrev Cx.wish (X : Cx) (E : Value → Shared → Prop) : Cx := { X with xe := E }
/-- no exception leaves -/
abbrev Cx.nox (X : Cx) : Cx := X.wish fun _ _ => False
theorem Cx.Ok.wish {X : Cx} (ok : X.Ok) (E : Value → Shared → Prop) : (X.wish E).Ok :=
  ⟨ok.mod, ok.kind, ok.glob, ok.blt, ok.above, ok.inj, ok.has, ok.cab, ok.hd, ok.frames, ok.stk, ok.exf, ok.bs, ok.bsz, ok.noex, ok.exfs, ok.funs, ok.frf⟩
theorem Cx.Ok.unwish {X : Cx} {E : Value → Shared → Prop} (ok : (X.wish E).Ok) : X.Ok :=
  ⟨ok.mod, ok.kind, ok.glob, ok.blt, ok.above, ok.inj, ok.has, ok.cab, ok.hd, ok.frames, ok.stk, ok.exf, ok.bs, ok.bsz, ok.noex, ok.exfs, ok.funs, ok.frf⟩
section
variable {X : Cx} {pins : List (Addr × Obj)} {σ : St} {H : Hp} {s : Shared} {E : Value → Shared → Prop}
theorem Inv.wish (I : Inv X pins σ H s) (E : Value → Shared → Prop) : Inv (X.wish E) pins σ H s := ⟨I.ok.wish E, I.os, I.bare, I.base, I.loc, I.cell, I.free, I.freeC, I.pin, I.hok, I.len⟩
theorem Inv.unwish (I : Inv (X.wish E) pins σ H s) : Inv X pins σ H s := ⟨I.ok.unwish, I.os, I.bare, I.base, I.loc, I.cell, I.free, I.freeC, I.pin, I.hok, I.len⟩
theorem SP.unwish {D : Ends} {f : Flow} {s' : Shared} (h : SP (X.wish E) pins D f s') : SP X pins D f s' := by
  cases f with
  | next => obtain ⟨σ', H', I, q⟩ := h; exact ⟨σ', H', I.unwish, q⟩
  | brk => obtain ⟨σ', H', I, q⟩ := h; exact ⟨σ', H', I.unwish, q⟩
  | cont => obtain ⟨σ', H', I, q⟩ := h; exact ⟨σ', H', I.unwish, q⟩
  | ret u => obtain ⟨v, σ', H', I, r, q⟩ := h; exact ⟨v, σ', H', I.unwish, r, q⟩
theorem PE.nox {e : Expr} {t : TE} (h : PE X.nox e t) : PE X e t := fun pins s σ H Q I hw =>
  wpAny_mono (h pins s σ H Q (I.wish _) hw) (fun _ _ ⟨v, H', I', r, q⟩ => ⟨v, H', I'.unwish, r, q⟩) fun _ _ z => False.elim z
theorem PT.nox {e : Expr} {t : TT} (h : PT X.nox e t) : PT X e t := fun pins s σ H Q I hw =>
  wpAny_mono (h pins s σ H Q (I.wish _) hw) (fun _ _ ⟨H', I', q⟩ => ⟨H', I'.unwish, q⟩) fun _ _ z => False.elim z
theorem PSs.nox {st : List Stmt} {t : TS} (h : PSs X.nox st t) : PSs X st t := fun pins s σ H D I hw =>
  wpAny_mono (h pins s σ H D (I.wish _) hw) (fun _ _ q => q.unwish) fun _ _ z => False.elim z
end
/-! ### blocks and small statements -/
section
variable {X : Cx} {st : Stmt} {rest : List Stmt} {t u : TS} {e : Expr} {te : TE} {pos : Pos}
def tNext : TS := fun D σ H => D.nx σ H
def tSeq (t u : TS) : TS := fun D σ H => t { D with nx := u D } σ H
theorem pss_nil : PSs X [] tNext := fun _ _ σ H _ I h => wpAny_execs_nil ⟨σ, H, I, h⟩
theorem pss_cons (h1 : PS X st t) (h2 : PSs X rest u) : PSs X (st :: rest) (tSeq t u) := by
  intro pins s σ H D I h
  refine wpAny_execs_cons (thn (h1 pins s σ H { D with nx := u D } I h) fun f s1 q => ?_)
  cases f with
  | next =>
    obtain ⟨σ', H', I', q⟩ := q
    exact h2 pins s1 σ' H' D I' q
  | ret v => exact q
  | brk => exact q
  | cont => exact q
theorem pss_one (h1 : PS X st t) : PSs X [st] t := by
  intro pins s σ H D I h
  refine wpAny_execs_cons (thn (h1 pins s σ H D I h) fun f s1 q => ?_)
  cases f with
  | next => exact wpAny_execs_nil q
  | ret v => exact q
  | brk => exact q
  | cont => exact q
def tBreak : TS := fun D σ H => D.bk σ H
def tCont : TS := fun D σ H => D.ct σ H
/-- an expression whose value is dropped -/
def tDrop (te : TE) : TS := fun D σ H => te σ H fun _ H1 => D.nx σ H1
def tRet (te : TE) : TS := fun D σ H => te σ H D.rt
theorem ps_ret (he : PE X e te) : PS X (.Return (some e) pos) (tRet te) := by
  intro pins s σ H D I h
  exact wpAny_Return_some (thn (he pins s σ H _ I h) fun v s1 ⟨x, H1, I1, r1, q1⟩ => ⟨x, σ, H1, I1, r1, q1⟩)
def tRetN : TS := fun D _ H => D.rt .non H
def tIfS (c : TT) (t u : TS) : TS := fun D σ H => c σ H fun b H1 => if b = true then t D σ H1 else u D σ H1
theorem ps_if {c : Expr} {a b : List Stmt} {tc : TT} (hc : PT X c tc) (ha : PSs X a t) (hb : PSs X b u) : PS X (.If c a b pos) (tIfS tc t u) := by
  intro pins s σ H D I h
  refine wpAny_If (thn (hc pins s σ H _ I h) fun d s1 ⟨H1, I1, q1⟩ => ?_)
  cases d with
  | true => exact ha pins s1 σ H1 D I1 q1
  | false => exact hb pins s1 σ H1 D I1 q1
end
/-! ### targets -/
abbrev TG := V → St → Hp → (St → Hp → Prop) → Prop
abbrev TGs := List V → St → Hp → (St → Hp → Prop) → Prop
def PG (X : Cx) (target : Expr) (t : TG) : Prop :=
  ∀ (pins : List (Addr × Obj)) (s : Shared) (σ : St) (H : Hp) (v : V) (u : Value) (Q : St → Hp → Prop), Inv X pins σ H s → RelV v u → t v σ H Q →
    wpAny (model X.prog X.w) X.A (assign target X.env u) (fun _ s' => ∃ σ' H', Inv X pins σ' H' s' ∧ Q σ' H') X.xe s
/-- several targets, one after another -/
def PGs (X : Cx) (ts : List Expr) (t : TGs) : Prop :=
  ∀ (pins : List (Addr × Obj)) (s : Shared) (σ : St) (H : Hp) (vs : List V) (us : List Value) (Q : St → Hp → Prop), Inv X pins σ H s → Vals vs us → t vs σ H Q →
    wpAny (model X.prog X.w) X.A (assignInOrder ((assignEach ts X.env).map (·.2)) us) (fun _ s' => ∃ σ' H', Inv X pins σ' H' s' ∧ Q σ' H') X.xe s
/-- o[i] = v, by values -/
abbrev TSet := V → V → V → Hp → (Hp → Prop) → Prop
section
variable {X : Cx} {pos : Pos}
def gName (i : Nat) : TG := fun v σ H Q => Q (σ.set i (some v)) H
theorem pg_name {i : Nat} {x : Str} (hN : X.N.Nodup) (hi : X.N[i]? = some x) (hx : Loc X.env.scope x) (hf : X.fn x = true ∨ X.env.scope.names.lookup x = some .local := by first | exact .inl rfl | exact .inr rfl | assumption) : PG X (.Name x pos) (gName i) := by
  intro pins s σ H v u Q I r h
  exact wpAny_assign_Name (store_ok I hN hi hx r (fun s' I' => ⟨_, H, I', h⟩) hf)
def gNil : TGs := fun vs σ H Q => vs = [] ∧ Q σ H
def gCons (t : TG) (u : TGs) : TGs := fun vs σ H Q => ∃ v r, vs = v :: r ∧ t v σ H fun σ' H' => u r σ' H' Q
theorem pgs_nil : PGs X [] gNil := by
  intro pins s σ H vs us Q I r h
  obtain ⟨e, h⟩ := h
  subst e
  cases r
  exact assignInOrder_nil ⟨σ, H, I, h⟩
theorem pgs_cons {e : Expr} {es : List Expr} {t : TG} {u : TGs} (h1 : PG X e t) (h2 : PGs X es u)
    (hs : (assignEach (e :: es) X.env).map (·.2) = assign e X.env :: (assignEach es X.env).map (·.2) := by rfl) : PGs X (e :: es) (gCons t u) := by
  intro pins s σ H vs us Q I r h
  obtain ⟨v, vr, e1, h⟩ := h
  subst e1
  cases r with
  | cons r rr =>
    rw [hs]
    refine assignInOrder_cons (thn (h1 pins s σ H _ _ _ I r h) fun _ s1 ⟨σ1, H1, I1, q1⟩ => ?_)
    exact h2 pins s1 σ1 H1 _ _ Q I1 rr q1
/-- (a, b, ..) = a tuple of that length -/
def gTup (K : PySem.W.Frag) (n : Nat) (t : TGs) : TG := fun v σ H Q => ∃ a xs, v = .ref a ∧ SqT K H a xs ∧ xs.length = n ∧ t xs σ H Q
theorem pg_tup {es : List Expr} {k : Nat} {t : TGs} {n : Nat} (hc : X.calm = true) (h : PGs X es t)
    (hn : (assignEach es X.env).length = n := by rfl) (hst : (assignEach es X.env).findIdx? (·.1) = none := by rfl) : PG X (.Tuple es k pos) (gTup X.K n t) := by
  intro pins s σ H v u Q I r hw
  obtain ⟨a, xs, e1, hq, hl, hw⟩ := hw
  subst e1
  cases r
  obtain ⟨its, rv, ht, hz⟩ := I.tuple hq
  refine assign_Tuple_tuple (I.ok.hd hc) ht (by simp [hn, ← hl, rv.length]) hst fun h' hx => ?_
  have I1 : Inv X pins σ H { s with heap := h' } := I.kept (t' := s.toks) fun b o e => hx b o (Nat.ne_of_lt (Heap.lt_size e)) e
  exact h pins _ σ H xs _ Q I1 (by simpa using rv) hw
/-- o[i] = .. -/
def gSub (to ti : TE) (t : TSet) : TG := fun v σ H Q => to σ H fun o H1 => ti σ H1 fun i H2 => t o i v H2 fun H3 => Q σ H3
/-- target = value -/
def tAsg (te : TE) (g : TG) : TS := fun D σ H => te σ H fun x H1 => g x σ H1 D.nx
/-- name = value -/
theorem ps_set {i : Nat} {x : Str} {e : Expr} {te : TE} {pos' : Pos} (hN : X.N.Nodup) (hi : X.N[i]? = some x) (hx : Loc X.env.scope x) (he : PE X e te) (hs : swapsWith e (some (.Name x pos')) pos.line X.env = pure false := by rfl) (hf : X.fn x = true ∨ X.env.scope.names.lookup x = some .local := by first | exact .inl rfl | exact .inr rfl | assumption) :
    PS X (.Assign [.Name x pos'] e pos) (tAsg te (gName i)) := by
  intro pins s σ H D I h
  refine wpAny_Assign_Name (thn (he pins s σ H _ I h) fun v s1 ⟨y, H1, I1, r1, q1⟩ => ?_) hs
  exact store_ok I1 hN hi hx r1 (fun s2 I2 => ⟨_, H1, I2, q1⟩) hf
end
/-! ### while -/
section
variable {X : Cx} {pos : Pos}
end
/-! ### what a loop or a comprehension walks -/
/-- at turn i: it yields x (the heap may grow), or it stops -/
structure It where
  go : Nat → Hp → Prop
  yld : Nat → Hp → V → Hp → Prop
  stop : Nat → Hp → Prop
/-- the iterator's own objects may turn: they are not the frame's, not pinned, younger than the entry (or a comprehension's own) -/
def FpOk (X : Cx) (pins : List (Addr × Obj)) (H : Hp) (b : Addr) : Prop :=
  H b = none ∧ b ≠ X.env.locals ∧ b ∉ X.fs ∧ (b ∈ X.ex ∨ X.s₀.heap.objs.size ≤ b) ∧ (∀ x c, X.env.cells.lookup x = some c → c ≠ b) ∧ ∀ p ∈ X.pn ++ pins, p.1 ≠ b
theorem Inv.fpOk {X : Cx} {pins : List (Addr × Obj)} {σ : St} {H H' : Hp} {s : Shared} {b : Addr} (I : Inv X pins σ H s) (hb : s.heap.objs.size ≤ b) (hn : H' b = none) : FpOk X pins H' b := by
  refine ⟨hn, Nat.ne_of_gt (Nat.lt_of_lt_of_le I.lt hb), I.nofs hb, .inr (Nat.le_trans I.sz hb), fun x c e z => ?_, fun p hp z => ?_⟩
  · obtain ⟨v, q⟩ := I.cell x c e
    exact absurd (Nat.lt_of_lt_of_le q.lt (by rw [z]; exact hb)) (Nat.lt_irrefl _)
  · exact absurd (Nat.lt_of_lt_of_le (Heap.lt_size (I.pin p hp).1) (by rw [z]; exact hb)) (Nat.lt_irrefl _)
structure Turn (P : Program) (w : World) (K : PySem.W.Frag) (tg : Expr) (J : It) (fp : List Addr) (it : Addr) (tn : Nat → Heap → Prop) : Prop where
  mem : it ∈ fp
  obj : ∀ i h, tn i h → ∀ b ∈ fp, ∃ o, h.get? b = some o ∧ ∀ v, o.data ≠ .cell v
  keep : ∀ i h h', tn i h → (∀ b ∈ fp, ∀ o, h.get? b = some o → h'.get? b = some o) → tn i h'
  item : ∀ (X : Cx), X.prog = P → X.w = w → X.K = K → X.calm = true → ∀ (i : Nat) (pins : List (Addr × Obj)) (s : Shared) (σ : St) (H : Hp) (E : Value → Shared → Prop), Inv X pins σ H s → (∀ b ∈ fp, FpOk X pins H b) → tn i s.heap → J.go i H →
    wpAny (model P w) X.A (pyNext (.ref it)) (fun r s1 => ∃ u, r = some u ∧
      wpAny (model P w) X.A (letOwnedTupleGo tg (.ref it) u) (fun _ s2 => ∃ x H', Inv X pins σ H' s2 ∧ RelV x u ∧ J.yld i H x H' ∧ tn (i + 1) s2.heap ∧ ∀ b ∈ fp, H' b = none) E s1) E s
  done : ∀ (X : Cx), X.prog = P → X.w = w → X.K = K → X.calm = true → ∀ (i : Nat) (pins : List (Addr × Obj)) (s : Shared) (σ : St) (H : Hp) (E : Value → Shared → Prop), Inv X pins σ H s → (∀ b ∈ fp, FpOk X pins H b) → tn i s.heap → J.stop i H →
    wpAny (model P w) X.A (pyNext (.ref it)) (fun r s1 => r = none ∧ Inv X pins σ H s1) E s
  self : ∀ (A : Around) (i : Nat) (s : Shared) (Q : Value → Shared → Prop) (E : Value → Shared → Prop), tn i s.heap → Q (.ref it) s → wpAny (model P w) A (pyIter (.ref it)) Q E s
abbrev TI := St → Hp → (It → Hp → Prop) → Prop
/-- an iterator has come -/
def PIE (X : Cx) (pins : List (Addr × Obj)) (σ : St) (tg : Expr) (R : It → Hp → Prop) (itv : Value) (s2 : Shared) : Prop :=
  ∃ (it : Addr) (fp : List Addr) (tn : Nat → Heap → Prop) (J : It) (H' : Hp), itv = .ref it ∧ Inv X pins σ H' s2 ∧ Turn X.prog X.w X.K tg J fp it tn ∧ tn 0 s2.heap ∧ (∀ b ∈ fp, FpOk X pins H' b) ∧ R J H'
def PI (X : Cx) (tg iter : Expr) (wi : TI) : Prop :=
  ∀ (pins : List (Addr × Obj)) (s : Shared) (σ : St) (H : Hp) (R : It → Hp → Prop), Inv X pins σ H s → wi σ H R →
    wpAny (model X.prog X.w) X.A (eval iter X.env) (fun v s1 => wpAny (model X.prog X.w) X.A (pyIter v) (PIE X pins σ tg R) X.xe s1) X.xe s
/-- the step ahead of the store is nothing for an iterator that keeps no tuple -/
theorem go_of {M : Model} {A : Around} {E : Value → Shared → Prop} {s : Shared} {tg : Expr} {it : Addr} {u : Value} {o : Obj} {n : String} {vs : Array Value} {Q : Unit → Shared → Prop} (ho : s.heap.get? it = some o) (hc : o.cls = .type n) (hd : o.data = .fields vs)
    (hn : ["enumerate", "zip", "dict_itemiterator", "dict_reverseitemiterator", "odict_iterator", "itertools.zip_longest", "itertools.pairwise"].contains n = false) (hQ : Q () s) : wpAny M A (letOwnedTupleGo tg (.ref it) u) Q E s := by
  unfold letOwnedTupleGo
  cases tg <;> first
    | exact wpAny_pure hQ
    | (cases u <;> first
        | exact wpAny_pure hQ
        | (refine wpAny_bind (wpAny_load ho ?_)
           rw [hc, hd]
           show wpAny M A (if (["enumerate", "zip", "dict_itemiterator", "dict_reverseitemiterator", "odict_iterator", "itertools.zip_longest", "itertools.pairwise"].contains n && vs[0]? == some (rawInt _)) = true then _ else _) Q E s
           rw [if_neg (by intro h; rw [hn, Bool.false_and] at h; cases h)]
           exact wpAny_pure hQ))
/-- the list at a, as it stands at each turn (a loop may append to it) -/
def Itl (K : PySem.W.Frag) (a : Addr) : It :=
  ⟨fun i H => ∃ xs x, SqL K H a xs ∧ xs[i]? = some x, fun i H x H' => H' = H ∧ ∀ xs, SqL K H a xs → xs[i]? = some x, fun i H => ∃ xs, SqL K H a xs ∧ xs.length ≤ i⟩
def Itt (K : PySem.W.Frag) (a : Addr) : It :=
  ⟨fun i H => ∃ xs x, SqT K H a xs ∧ xs[i]? = some x, fun i H x H' => H' = H ∧ ∀ xs, SqT K H a xs → xs[i]? = some x, fun i H => ∃ xs, SqT K H a xs ∧ xs.length ≤ i⟩
/-- lo, lo + 1, .. (n of them) -/
def Itr (lo : Int) (n : Nat) : It := ⟨fun i _ => i < n, fun i H x H' => H' = H ∧ x = .int (lo + i), fun i _ => n ≤ i⟩
theorem turn_list {P : Program} {w : World} {K : PySem.W.Frag} {tg : Expr} (a it : Addr) : Turn P w K tg (Itl K a) [it] it (fun i h => h.IsListIter it a i) where
  mem := by simp
  obj := fun i h st b hb => by
    have e : b = it := by simpa using hb
    subst e
    obtain ⟨o, e, c, d⟩ := st
    exact ⟨o, e, fun v z => by rw [d] at z; cases z⟩
  keep := fun i h h' st k => st.at fun o e => k it (by simp) o e
  item := by
    intro X hP hw hK hc i pins s σ H E I hf st hg
    subst hP hw hK
    obtain ⟨xs, x, hq, hx⟩ := hg
    obtain ⟨its, rv, p, hz⟩ := I.list hq
    obtain ⟨u, hu, ru⟩ := rv.get hx
    obtain ⟨f0, f1, f2, f3, f4, f5⟩ := hf it (by simp)
    refine wpAny_pyNext_list_item st p.isList (x := u) (by simpa using hu) fun h' st' sb => ?_
    have I1 : Inv X pins σ H { s with heap := h' } := I.turned (t' := s.toks) (fun b o hb e => (sb.2 b hb).trans e) f0 f1 f3 f4 f5
    obtain ⟨o, e, c, d⟩ := id st'
    exact ⟨u, rfl, go_of (s := { s with heap := h' }) e c d (by decide) ⟨x, H, I1, ru, ⟨rfl, fun ys hy => by rw [I.list_inj hy hq]; exact hx⟩, st', fun b hb => (hf b hb).1⟩⟩
  done := by
    intro X hP hw hK hc i pins s σ H E I hf st hg
    subst hP hw hK
    obtain ⟨xs, hq, hx⟩ := hg
    obtain ⟨its, rv, p, hz⟩ := I.list hq
    obtain ⟨f0, f1, f2, f3, f4, f5⟩ := hf it (by simp)
    have hl := rv.length
    exact wpAny_pyNext_list_end (I.ok.hd hc) st p.isList (by simp; omega) fun h' eb => ⟨rfl, I.turned (t' := s.toks) (fun b o hb e => eb b o hb e) f0 f1 f3 f4 f5⟩
  self := fun _ _ _ _ _ st h => wpAny_pyIter_listiter st h
theorem turn_range {P : Program} {w : World} {K : PySem.W.Frag} {tg : Expr} (it : Addr) (lo : Int) (n : Nat) : Turn P w K tg (Itr lo n) [it] it (fun i h => IsRangeIter h it (lo + (i : Nat) * 1) ((n : Int) - (i : Nat)) 1) where
  mem := by simp
  obj := fun i h st b hb => by
    have e : b = it := by simpa using hb
    subst e
    exact ⟨_, st, fun v z => by
      have z' : Data.fields _ = Data.cell v := z
      cases z'⟩
  keep := fun i h h' st k => k it (by simp) _ st
  item := by
    intro X hP hw hK hc i pins s σ H E I hf st hg
    subst hP hw hK
    obtain ⟨f0, f1, f2, f3, f4, f5⟩ := hf it (by simp)
    have W := Walks.range (prog := X.prog) (w := X.w) (I.ok.hd hc) it lo 1 n
    refine W.item i s _ _ hg st fun v h' tk hv st' kk => ?_
    obtain ⟨t, rfl⟩ := hv
    have I1 : Inv X pins σ H { s with heap := h', toks := tk } := I.turned (fun b o hb e => kk b o (by simpa using hb) e) f0 f1 f3 f4 f5
    refine ⟨_, rfl, go_of (s := { s with heap := h', toks := tk }) (n := "range_iterator") st' rfl rfl (by decide) ⟨.int (lo + i), H, I1, ⟨t, ?_⟩, ⟨rfl, rfl⟩, st', fun b hb => (hf b hb).1⟩⟩
    rw [Int.mul_one]
  done := by
    intro X hP hw hK hc i pins s σ H E I hf st hg
    subst hP hw hK
    obtain ⟨f0, f1, f2, f3, f4, f5⟩ := hf it (by simp)
    exact wpAny_pyNext_range_end (I.ok.hd hc) st (by have : n ≤ i := hg; omega) fun h' eb => ⟨rfl, I.turned (t' := s.toks) (fun b o hb e => eb b o hb e) f0 f1 f3 f4 f5⟩
  self := fun _ _ _ _ _ st h => wpAny_pyIter_rangeiter st h
end L2
namespace L2
open PySem PySem.Spec PyProof.Rows
section
variable {X : Cx} {tg : Expr}
def iList (K : PySem.W.Frag) (tl : TE) : TI := fun σ H R => tl σ H fun x H1 => ∃ a, x = .ref a ∧ (∃ xs, SqL K H1 a xs) ∧ R (Itl K a) H1
def iTup (K : PySem.W.Frag) (tl : TE) : TI := fun σ H R => tl σ H fun x H1 => ∃ a, x = .ref a ∧ (∃ xs, SqT K H1 a xs) ∧ R (Itt K a) H1
theorem pi_list {l : Expr} {tl : TE} (hl : PE X l tl) : PI X tg l (iList X.K tl) := by
  intro pins s σ H R I h
  refine thn (hl pins s σ H _ I h) fun v s1 ⟨x, H1, I1, r1, q1⟩ => ?_
  obtain ⟨a, e, ⟨xs, hq⟩, q⟩ := q1
  subst e
  cases r1
  obtain ⟨its, rv, p, hz⟩ := I1.list hq
  refine wpAny_pyIter_list p.isList ?_
  refine ⟨s1.heap.objs.size, [s1.heap.objs.size], _, _, H1, rfl, I1.kept (t' := s1.toks) fun b o e => Heap.get?_push_of_some _ e, turn_list a _, ⟨_, Heap.get?_push_size _ rfl, rfl, rfl⟩, fun b hb => ?_, q⟩
  have e : b = s1.heap.objs.size := by simpa using hb
  subst e
  exact I1.fpOk (Nat.le_refl _) (I1.hok.fresh (Nat.le_refl _))
/-- a range object just made, walked -/
theorem range_it {pins : List (Addr × Obj)} {σ : St} {H : Hp} {s : Shared} {R : It → Hp → Prop} {E : Value → Shared → Prop} {lo hi : Int} {t u v : Tok} {tk : Nat} (I : Inv X pins σ H s) (h1 : -(2 ^ 62) ≤ lo) (h2 : lo < 2 ^ 62) (h3 : -(2 ^ 62) ≤ hi) (h4 : hi < 2 ^ 62)
    (q : R (Itr lo (hi - lo).toNat) H) : wpAny (model X.prog X.w) X.A (pyIter (.ref s.heap.objs.size)) (PIE X pins σ tg R) E { s with heap := s.heap.push { cls := .type "range", data := .fields #[.int lo t, .int hi u, .int 1 v] }, toks := tk } := by
  refine wpAny_pyIter_range (IsRange.new ..) (small_one h1 h2 h3 h4) ?_
  have I1 : Inv X pins σ H { s with heap := s.heap.push { cls := .type "range", data := .fields #[.int lo t, .int hi u, .int 1 v] }, toks := tk } := I.kept fun b o e => Heap.get?_push_of_some _ e
  refine ⟨(s.heap.push { cls := .type "range", data := .fields #[.int lo t, .int hi u, .int 1 v] }).objs.size, [(s.heap.push { cls := .type "range", data := .fields #[.int lo t, .int hi u, .int 1 v] }).objs.size], _, _, H, rfl,
    I1.kept (t' := tk) fun b o e => Heap.get?_push_of_some _ e, turn_range _ lo (hi - lo).toNat, ?_, fun b hb => ?_, q⟩
  · have e1 : lo + ((0 : Nat) : Int) * 1 = lo := by simp
    have e2 : (((hi - lo).toNat : Nat) : Int) - ((0 : Nat) : Int) = Builtin.Range.rangeSize lo hi 1 := by rw [rangeSize_one]; split <;> omega
    show IsRangeIter _ _ (lo + ((0 : Nat) : Int) * 1) ((((hi - lo).toNat : Nat) : Int) - ((0 : Nat) : Int)) 1
    rw [e1, e2]
    exact Heap.get?_push_size _ rfl
  · have e : b = (s.heap.push { cls := .type "range", data := .fields #[.int lo t, .int hi u, .int 1 v] }).objs.size := by simpa using hb
    subst e
    exact I1.fpOk (Nat.le_refl _) (I1.hok.fresh (Nat.le_refl _))
def iRng1 (ta : TA) : TI := fun σ H R => ta σ H fun vs H1 => ∃ j : Int, vs = [.int j] ∧ -(2 ^ 62) ≤ j ∧ j < 2 ^ 62 ∧ R (Itr 0 j.toNat) H1
theorem pi_range1 {a : Expr} {ta : TA} {p pos : Pos} (hg : Gl X "range") (hm : X.mg "range" = none) (ha : PA X [a] ta) (hs : starEach [a] X.env = [(false, eval a X.env)] := by rfl) : PI X tg (.Call (.Name "range" p) [a] [] pos) (iRng1 ta) := by
  intro pins s σ H R I h
  refine Call_ (ld_blt I hg hm boot_range (PyProof.Rows.callWith_type1 (thn (ha pos pins s σ H _ I h) fun us s1 ⟨vs, H1, I1, r1, q1⟩ => ?_) hs rfl))
  obtain ⟨j, e, q1, q2, q⟩ := q1
  subst e
  cases r1 with
  | cons r rr =>
    cases rr
    obtain ⟨t, rfl⟩ := r
    exact call_range_1 (range_it I1 (by omega) (by omega) q1 q2 (by simpa using q))
/-! ### for -/
/-- W: the invariant by the turn and a measure; N: what the body is to reach -/
def tFor (wi : TI) (g : TG) (tb : TS) : TS := fun D σ H => wi σ H fun J H1 => ∃ W : Nat → Nat → St → Hp → Prop, (∃ m, W 0 m σ H1) ∧ ∀ i m σ H, W i m σ H →
  (J.stop i H ∧ D.nx σ H) ∨ (J.go i H ∧ ∃ N : St → Hp → Prop, (∀ σ' H', N σ' H' → ∃ m', m' < m ∧ W (i + 1) m' σ' H') ∧ ∀ x H', J.yld i H x H' → g x σ H' fun σ2 H2 => tb { D with nx := N, ct := N, bk := D.nx } σ2 H2)
/-- the records at fp as they stand -/
def pinsAt (fp : List Addr) (h : Heap) : List (Addr × Obj) := fp.filterMap fun b => (h.get? b).map fun o => (b, o)
theorem mem_pinsAt {fp : List Addr} {h : Heap} {b : Addr} {o : Obj} (hb : b ∈ fp) (e : h.get? b = some o) : (b, o) ∈ pinsAt fp h := List.mem_filterMap.mpr ⟨b, hb, by rw [e]; rfl⟩
theorem of_pinsAt {fp : List Addr} {h : Heap} {p : Addr × Obj} (hp : p ∈ pinsAt fp h) : p.1 ∈ fp ∧ h.get? p.1 = some p.2 := by
  obtain ⟨b, hb, e⟩ := List.mem_filterMap.mp hp
  cases q : h.get? b with
  | none => rw [q] at e; cases e
  | some o =>
    rw [q] at e
    have e' : (b, o) = p := Option.some.inj e
    subst e'
    exact ⟨hb, q⟩
theorem Inv.pinned {pins : List (Addr × Obj)} {σ : St} {H : Hp} {s : Shared} {fp : List Addr} (I : Inv X pins σ H s) (hf : ∀ b ∈ fp, FpOk X pins H b) (ho : ∀ b ∈ fp, ∃ o, s.heap.get? b = some o ∧ ∀ v, o.data ≠ .cell v) : Inv X (pins ++ pinsAt fp s.heap) σ H s :=
  I.pins_of fun p hp => (List.mem_append.mp hp).elim (fun z => I.pin p (List.mem_append_right _ z)) fun z => by
    obtain ⟨hb, e⟩ := of_pinsAt z
    obtain ⟨f0, f1, f2, _⟩ := hf p.1 hb
    obtain ⟨o, e', d⟩ := ho p.1 hb
    rw [e] at e'; cases e'
    exact ⟨e, f0, f1, f2, d⟩
theorem Inv.unpinned {pins pl : List (Addr × Obj)} {σ : St} {H : Hp} {s : Shared} (I : Inv X (pins ++ pl) σ H s) : Inv X pins σ H s := I.pins_of fun p hp => I.pin p (List.mem_append_right _ (List.mem_append_left _ hp))
theorem ps_for {iter : Expr} {body : List Stmt} {wi : TI} {g : TG} {tb : TS} {pos : Pos} (hp : PassesOwn (model X.prog X.w) X.A X.env X.xe) (hc : X.calm = true) (hi : PI X tg iter wi) (hg : PG X tg g) (hb : PSs X body tb)
    (hs : ∀ x, foldedSetIterable iter X.env x = pure x := by intro _; rfl) : PS X (.For tg iter body [] pos) (tFor wi g tb) := by
  intro pins s σ H D I h
  refine wpAny_For (thn (hi pins s σ H _ I h) fun v s1 h1 => thn h1 fun itv s2 h2 => ?_) hs
  obtain ⟨it, fp, tn, J, H2, e, I2, T, st2, f2, W, ⟨m0, w0⟩, turn⟩ := h2
  subst e
  -- what stays true of the iterator's objects through the loop
  have stat : ∀ {H' : Hp}, (∀ b ∈ fp, H' b = none) → ∀ b ∈ fp, FpOk X pins H' b := fun hn b hb => ⟨hn b hb, (f2 b hb).2⟩
  refine codeAny_forLoop_any (fun n s' => ∃ i σ' H', Inv X pins σ' H' s' ∧ tn i s'.heap ∧ (∀ b ∈ fp, H' b = none) ∧ W i n σ' H') ?_ m0 ⟨0, σ, H2, I2, st2, fun b hb => (f2 b hb).1, w0⟩
  rintro n s3 ⟨i, σ3, H3, I3, st3, fr3, w3⟩
  rcases turn i n σ3 H3 w3 with ⟨stop, qn⟩ | ⟨go, N, hN, step⟩
  · refine wpAny_passesOwn hp (thn (T.done X rfl rfl rfl hc i pins s3 σ3 H3 X.xe I3 (stat fr3) st3 stop) fun r s4 ⟨hr, I4⟩ => ?_)
    subst hr
    exact wpAny_execs_nil ⟨σ3, H3, I4, qn⟩
  · refine wpAny_passesOwn hp (thn (T.item X rfl rfl rfl hc i pins s3 σ3 H3 X.xe I3 (stat fr3) st3 go) fun r s4 ⟨u, hr, h4⟩ => ?_)
    subst hr
    refine wpAny_passesOwn hp (thn h4 fun _ s5 ⟨x, H5, I5, r5, y5, st5, fr5⟩ => ?_)
    have I5' := I5.pinned (stat fr5) (T.obj _ _ st5)
    refine wpAny_passesOwn hp (thn (hg _ s5 σ3 H5 x u _ I5' r5 (step x H5 y5)) fun _ s6 ⟨σ6, H6, I6, q6⟩ => ?_)
    refine wpAny_passesOwn hp (thn (hb _ s6 σ6 H6 _ I6 q6) fun f s7 q7 => ?_)
    have again : ∀ {σ7 : St} {H7 : Hp}, Inv X (pins ++ pinsAt fp s5.heap) σ7 H7 s7 → N σ7 H7 → ∃ m, m < n ∧ ∃ i σ' H', Inv X pins σ' H' s7 ∧ tn i s7.heap ∧ (∀ b ∈ fp, H' b = none) ∧ W i m σ' H' := fun {σ7 H7} I7 n7 => by
      obtain ⟨m', hm, w7⟩ := hN σ7 H7 n7
      refine ⟨m', hm, i + 1, σ7, H7, I7.unpinned, T.keep _ _ _ st5 fun b hb o e => (I7.pin (b, o) (List.mem_append_right _ (List.mem_append_right _ (mem_pinsAt hb e)))).1, fun b hb => ?_, w7⟩
      obtain ⟨o, e, d⟩ := T.obj _ _ st5 b hb
      exact (I7.pin (b, o) (List.mem_append_right _ (List.mem_append_right _ (mem_pinsAt hb e)))).2.1
    cases f with
    | next => obtain ⟨σ7, H7, I7, n7⟩ := q7; exact again I7 n7
    | cont => obtain ⟨σ7, H7, I7, n7⟩ := q7; exact again I7 n7
    | brk => obtain ⟨σ7, H7, I7, q7⟩ := q7; exact ⟨σ7, H7, I7.unpinned, q7⟩
    | ret v => obtain ⟨x7, σ7, H7, I7, r7, q7⟩ := q7; exact ⟨x7, σ7, H7, I7.unpinned, r7, q7⟩
end
/-! ### the forms one uses -/
/-- over a list that the body leaves as it is -/
theorem for_list {K : PySem.W.Frag} {a : Addr} {xs : List V} {g : TG} {tb : TS} {D : Ends} {σ : St} {H : Hp} (Pv : Nat → St → Hp → Prop) (h0 : Pv 0 σ H) (hl : ∀ i σ H, i ≤ xs.length → Pv i σ H → SqL K H a xs)
    (hs : ∀ i x σ H, xs[i]? = some x → Pv i σ H → g x σ H fun σ2 H2 => tb { D with nx := Pv (i + 1), ct := Pv (i + 1), bk := D.nx } σ2 H2) (hd : ∀ σ H, Pv xs.length σ H → D.nx σ H) :
    ∃ W : Nat → Nat → St → Hp → Prop, (∃ m, W 0 m σ H) ∧ ∀ i m σ H, W i m σ H →
      ((Itl K a).stop i H ∧ D.nx σ H) ∨ ((Itl K a).go i H ∧ ∃ N : St → Hp → Prop, (∀ σ' H', N σ' H' → ∃ m', m' < m ∧ W (i + 1) m' σ' H') ∧ ∀ x H', (Itl K a).yld i H x H' → g x σ H' fun σ2 H2 => tb { D with nx := N, ct := N, bk := D.nx } σ2 H2) := by
  refine ⟨fun i m σ H => m = xs.length - i ∧ i ≤ xs.length ∧ Pv i σ H, ⟨xs.length, by simp, Nat.zero_le _, h0⟩, ?_⟩
  rintro i m σ H ⟨rfl, hi, p⟩
  have q := hl i σ H hi p
  by_cases hlt : i < xs.length
  · refine .inr ⟨⟨xs, xs[i], q, by simp [hlt]⟩, Pv (i + 1), fun σ' H' p' => ⟨xs.length - (i + 1), by omega, rfl, hlt, p'⟩, fun x H' y => ?_⟩
    obtain ⟨e, y⟩ := y
    subst e
    exact hs i x σ _ (y xs q) p
  · have e : i = xs.length := by omega
    subst e
    exact .inl ⟨⟨xs, q, Nat.le_refl _⟩, hd σ H p⟩
theorem for_range {lo : Int} {n : Nat} {g : TG} {tb : TS} {D : Ends} {σ : St} {H : Hp} (Pv : Nat → St → Hp → Prop) (h0 : Pv 0 σ H)
    (hs : ∀ i σ H, i < n → Pv i σ H → g (.int (lo + i)) σ H fun σ2 H2 => tb { D with nx := Pv (i + 1), ct := Pv (i + 1), bk := D.nx } σ2 H2) (hd : ∀ σ H, Pv n σ H → D.nx σ H) :
    ∃ W : Nat → Nat → St → Hp → Prop, (∃ m, W 0 m σ H) ∧ ∀ i m σ H, W i m σ H →
      ((Itr lo n).stop i H ∧ D.nx σ H) ∨ ((Itr lo n).go i H ∧ ∃ N : St → Hp → Prop, (∀ σ' H', N σ' H' → ∃ m', m' < m ∧ W (i + 1) m' σ' H') ∧ ∀ x H', (Itr lo n).yld i H x H' → g x σ H' fun σ2 H2 => tb { D with nx := N, ct := N, bk := D.nx } σ2 H2) := by
  refine ⟨fun i m σ H => m = n - i ∧ i ≤ n ∧ Pv i σ H, ⟨n, by simp, Nat.zero_le _, h0⟩, ?_⟩
  rintro i m σ H ⟨rfl, hi, p⟩
  by_cases hlt : i < n
  · refine .inr ⟨hlt, Pv (i + 1), fun σ' H' p' => ⟨n - (i + 1), by omega, rfl, hlt, p'⟩, fun x H' y => ?_⟩
    obtain ⟨e, y⟩ := y
    subst e y
    exact hs i σ _ hlt p
  · have e : i = n := by omega
    subst e
    exact .inl ⟨Nat.le_refl _, hd σ H p⟩
end L2
namespace L2
open PySem PySem.Spec PyProof.Rows
abbrev R2 := V → V → Hp → VK → Prop
/-- a two-place operation on values: f is binaryOp op, inplaceOp op or compareOp op -/
def OpR (X : Cx) (f : Value → Value → Sem Value) (r : R2) : Prop :=
  ∀ (pins : List (Addr × Obj)) (s : Shared) (σ : St) (H : Hp) (x y : V) (v u : Value) (Q : VK), Inv X pins σ H s → RelV x v → RelV y u → r x y H Q →
    wpAny (model X.prog X.w) X.A (f v u) (EP X pins σ Q) X.xe s
/-- a one-place operation -/
def UnR (X : Cx) (f : Value → Sem Value) (r : V → Hp → VK → Prop) : Prop :=
  ∀ (pins : List (Addr × Obj)) (s : Shared) (σ : St) (H : Hp) (x : V) (v : Value) (Q : VK), Inv X pins σ H s → RelV x v → r x H Q →
    wpAny (model X.prog X.w) X.A (f v) (EP X pins σ Q) X.xe s
/-- a call of a value that is known (a builtin, a type) with values -/
def CallR (X : Cx) (f : Value) (r : List V → Hp → VK → Prop) : Prop :=
  ∀ (pins : List (Addr × Obj)) (s : Shared) (σ : St) (H : Hp) (xs : List V) (us : List Value) (Q : VK), Inv X pins σ H s → Vals xs us → r xs H Q →
    wpAny (model X.prog X.w) X.A (call f us) (EP X pins σ Q) X.xe s
def tOp (r : R2) (ta tb : TE) : TE := fun σ H Q => ta σ H fun x H1 => tb σ H1 fun y H2 => r x y H2 Q
def tUn (r : V → Hp → VK → Prop) (ta : TE) : TE := fun σ H Q => ta σ H fun x H1 => r x H1 Q
/-- ints in, under C, and a value out -/
def rI (C : Int → Int → Prop) (g : Int → Int → V) : R2 := fun x y H Q => ∃ i j, x = .int i ∧ y = .int j ∧ C i j ∧ Q (g i j) H
def rI0 (g : Int → Int → V) : R2 := fun x y H Q => ∃ i j, x = .int i ∧ y = .int j ∧ Q (g i j) H
def rU (g : Int → V) : V → Hp → VK → Prop := fun x H Q => ∃ i, x = .int i ∧ Q (g i) H
section
variable {X : Cx} {a b c : Expr} {ta tb tc : TE} {pos : Pos}
theorem binT (ha : PE X a ta) (hb : PE X b tb) {pins : List (Addr × Obj)} {s : Shared} {σ : St} {H : Hp} {R : V → V → Hp → Prop} (I : Inv X pins σ H s)
    (h : ta σ H fun x H1 => tb σ H1 fun y H2 => R x y H2) {Q : Value → Shared → Prop} {f : Value → Value → Sem Value}
    (hf : ∀ v u s2 x y H2, Inv X pins σ H2 s2 → RelV x v → RelV y u → R x y H2 → wpAny (model X.prog X.w) X.A (f v u) Q X.xe s2) :
    wpAny (model X.prog X.w) X.A (eval a X.env) (fun v s₁ => wpAny (model X.prog X.w) X.A (eval b X.env) (fun u s₂ => wpAny (model X.prog X.w) X.A (f v u) Q X.xe s₂) X.xe s₁) X.xe s := by
  refine thn (ha pins s σ H _ I h) fun v s1 ⟨x, H1, I1, r1, q1⟩ => ?_
  refine thn (hb pins s1 σ H1 _ I1 q1) fun u s2 ⟨y, H2, I2, r2, q2⟩ => ?_
  exact hf v u s2 x y H2 I2 r1 r2 q2
theorem pe_op {op : Operator} {r : R2} (ho : OpR X (binaryOp op) r) (ha : PE X a ta) (hb : PE X b tb) : PE X (.BinOp a op b pos) (tOp r ta tb) := by
  intro pins s σ H Q I h
  exact wpAny_BinOp (binT ha hb I h fun v u s2 x y H2 I2 rx ry q => ho pins s2 σ H2 x y v u Q I2 rx ry q)
theorem pe_un {op : UnaryOp} {r : V → Hp → VK → Prop} (ho : UnR X (unaryOp op) r) (ha : PE X a ta) : PE X (.UnaryOp op a pos) (tUn r ta) := by
  intro pins s σ H Q I h
  exact UnaryOp_ (thn (ha pins s σ H _ I h) fun v s1 ⟨x, H1, I1, r1, q1⟩ => ho pins s1 σ H1 x v Q I1 r1 q1)
/-! ### ints -/
theorem opI {f : Value → Value → Sem Value} {C : Int → Int → Prop} {g : Int → Int → Int}
    (rule : ∀ (i j : Int) (t u : Tok) (s : Shared) (Q : Value → Shared → Prop) (E : Value → Shared → Prop), C i j → Q (.int (g i j) s.toks) { s with toks := s.toks + 1 } → wpAny (model X.prog X.w) X.A (f (.int i t) (.int j u)) Q E s) :
    OpR X f (rI C fun i j => .int (g i j)) := by
  intro pins s σ H x y v u Q I rx ry h
  obtain ⟨i, j, rfl, rfl, hc, q⟩ := h
  obtain ⟨t, rfl⟩ := rx
  obtain ⟨t', rfl⟩ := ry
  exact rule i j t t' s _ _ hc ⟨.int (g i j), H, I.tok _, ⟨_, rfl⟩, q⟩
theorem opI0 {f : Value → Value → Sem Value} {g : Int → Int → Int}
    (rule : ∀ (i j : Int) (t u : Tok) (s : Shared) (Q : Value → Shared → Prop) (E : Value → Shared → Prop), Q (.int (g i j) s.toks) { s with toks := s.toks + 1 } → wpAny (model X.prog X.w) X.A (f (.int i t) (.int j u)) Q E s) :
    OpR X f (rI0 fun i j => .int (g i j)) := by
  intro pins s σ H x y v u Q I rx ry h
  obtain ⟨i, j, rfl, rfl, q⟩ := h
  obtain ⟨t, rfl⟩ := rx
  obtain ⟨t', rfl⟩ := ry
  exact rule i j t t' s _ _ ⟨.int (g i j), H, I.tok _, ⟨_, rfl⟩, q⟩
theorem opB0 {f : Value → Value → Sem Value} {g : Int → Int → Bool}
    (rule : ∀ (i j : Int) (t u : Tok) (s : Shared) (Q : Value → Shared → Prop) (E : Value → Shared → Prop), Q (.bool (g i j)) s → wpAny (model X.prog X.w) X.A (f (.int i t) (.int j u)) Q E s) :
    OpR X f (rI0 fun i j => .bl (g i j)) := by
  intro pins s σ H x y v u Q I rx ry h
  obtain ⟨i, j, rfl, rfl, q⟩ := h
  obtain ⟨t, rfl⟩ := rx
  obtain ⟨t', rfl⟩ := ry
  exact rule i j t t' s _ _ ⟨.bl (g i j), H, I, rfl, q⟩
def CDiv (i j : Int) : Prop := 0 < j ∧ j < 1073741824
def CPow (i j : Int) : Prop := 0 ≤ j ∧ j ≤ 1000000 ∧ i.natAbs < 2 ^ 64
def CMul (i j : Int) : Prop := (-(2 ^ 64) < i ∧ i < 2 ^ 64) ∨ (-(2 ^ 64) < j ∧ j < 2 ^ 64)
theorem CMul.ok {i j : Int} (h : CMul i j) : IntMulOk i j := by
  rcases h with ⟨h1, h2⟩ | ⟨h1, h2⟩
  · exact .of_left (intBits_le_64 h1 h2)
  · exact .of_right (intBits_le_64 h1 h2)
theorem two_pow_nn (k : Nat) : (0 : Int) ≤ 2 ^ k := by
  rw [two_pow_cast]
  exact Int.natCast_nonneg _
theorem op_add : OpR X (binaryOp .Add) (rI0 fun i j => .int (i + j)) := opI0 fun _ _ _ _ _ _ _ q => add_int q
theorem op_sub : OpR X (binaryOp .Sub) (rI0 fun i j => .int (i - j)) := opI0 fun _ _ _ _ _ _ _ q => sub_int q
theorem op_mul : OpR X (binaryOp .Mult) (rI CMul fun i j => .int (i * j)) := opI fun _ _ _ _ _ _ _ hc q => mul_int q hc.ok
/-- // by a positive divisor -/
theorem op_fdiv : OpR X (binaryOp .FloorDiv) (rI CDiv fun i j => .int (i / j)) := opI fun i j _ _ _ _ _ hc q => by
  have h1 : (0 : Int) < j := hc.1
  have h2 : j < 1073741824 := hc.2
  exact floordiv_int (by omega) (by rw [Int.fdiv_eq_ediv_of_nonneg i (by omega)]; exact q) (.inl (PyProof.noPylong_small (by omega)))
/-- % by a positive divisor of any size -/
theorem op_mod : OpR X (binaryOp .Mod) (rI (fun _ j => 0 < j) fun i j => .int (i % j)) := opI fun i j _ _ _ _ _ hc q => by
  have h1 : (0 : Int) < j := hc
  exact mod_int' (by omega) (by rw [Int.fmod_eq_emod_of_nonneg i (by omega)]; exact q)
theorem op_shl : OpR X (binaryOp .LShift) (rI CPow fun i j => .int (i * 2 ^ j.toNat)) := opI fun _ _ _ _ _ _ _ hc q => lshift_int_small hc.1 hc.2.1 hc.2.2 q
theorem op_shr : OpR X (binaryOp .RShift) (rI (fun _ j => 0 ≤ j) fun i j => .int (i / 2 ^ j.toNat)) := opI fun i j _ _ _ _ _ hc q =>
  rshift_int hc (by rw [Int.fdiv_eq_ediv_of_nonneg i (two_pow_nn _)]; exact q)
theorem op_and : OpR X (binaryOp .BitAnd) (rI0 fun i j => .int (Builtin.bitAnd i j)) := opI0 fun _ _ _ _ _ _ _ q => and_int q
theorem op_or : OpR X (binaryOp .BitOr) (rI0 fun i j => .int (Builtin.bitOr i j)) := opI0 fun _ _ _ _ _ _ _ q => or_int q
theorem op_xor : OpR X (binaryOp .BitXor) (rI0 fun i j => .int (Builtin.bitXor i j)) := opI0 fun _ _ _ _ _ _ _ q => xor_int q
theorem unI {f : Value → Sem Value} {g : Int → Int}
    (rule : ∀ (i : Int) (t : Tok) (s : Shared) (Q : Value → Shared → Prop) (E : Value → Shared → Prop), Q (.int (g i) s.toks) { s with toks := s.toks + 1 } → wpAny (model X.prog X.w) X.A (f (.int i t)) Q E s) :
    UnR X f (rU fun i => .int (g i)) := by
  intro pins s σ H x v Q I rx h
  obtain ⟨i, rfl, q⟩ := h
  obtain ⟨t, rfl⟩ := rx
  exact rule i t s _ _ ⟨.int (g i), H, I.tok _, ⟨_, rfl⟩, q⟩
theorem un_neg : UnR X (unaryOp .USub) (rU fun i => .int (-i)) := unI fun _ _ _ _ _ q => neg_int q
end
/-! ### comparisons -/
/-- the scalars that == tells apart as data does -/
def scal : V → V → Bool
  | .non, .non => true | .non, .int _ => true | .int _, .non => true | .non, .bl _ => true | .bl _, .non => true | .non, .str _ => true | .str _, .non => true
  | .int _, .int _ => true | .bl _, .bl _ => true | .str _, .str _ => true | .byt _, .byt _ => true
  | .int _, .str _ => true | .str _, .int _ => true | .bl _, .str _ => true | .str _, .bl _ => true
  | _, _ => false
def rEq : R2 := fun x y H Q => scal x y = true ∧ Q (.bl (decide (x = y))) H
def rNe : R2 := fun x y H Q => scal x y = true ∧ Q (.bl (!decide (x = y))) H
theorem dec_int {i j : Int} : decide (V.int i = V.int j) = (i == j) := by
  rw [Bool.eq_iff_iff]
  simp
theorem dec_bl {i j : Bool} : decide (V.bl i = V.bl j) = (i == j) := by
  rw [Bool.eq_iff_iff]
  simp
theorem dec_str {i j : Str} : decide (V.str i = V.str j) = (i == j) := by
  rw [Bool.eq_iff_iff]
  simp
theorem dec_byt {i j : Array UInt8} : decide (V.byt i = V.byt j) = (i.toList == j.toList) := by
  rw [Bool.eq_iff_iff]
  cases i
  cases j
  simp
section
variable {X : Cx} {a b c : Expr} {ta tb tc : TE} {pos : Pos}
theorem fin_bl {pins : List (Addr × Obj)} {σ : St} {H : Hp} {s : Shared} {Q : VK} {k k' : Bool} (I : Inv X pins σ H s) (q : Q (.bl k) H) (e : k = k') : EP X pins σ Q (.bool k') s := by
  subst e
  exact ⟨.bl k, H, I, rfl, q⟩
theorem op_eq : OpR X (compareOp .Eq) rEq := by
  intro pins s σ H x y v u Q I rx ry h
  obtain ⟨hs, q⟩ := h
  cases x with
  | non =>
    cases rx
    cases y with
    | non => cases ry; exact PySem.EqNone.eq_none_none (fin_bl I q (by simp))
    | bl j => cases ry; exact PySem.EqNone.eq_none_bool (fin_bl I q (by simp))
    | int j => obtain ⟨t', rfl⟩ := ry; exact PySem.EqNone.eq_none_int (fin_bl I q (by simp))
    | str j => obtain ⟨t', rfl⟩ := ry; exact PySem.EqNone.eq_none_str (fin_bl I q (by simp))
    | _ => exact absurd (show false = true from hs) Bool.false_ne_true
  | bl i =>
    cases rx
    cases y with
    | non => cases ry; exact PySem.EqNone.eq_bool_none (fin_bl I q (by simp))
    | bl j => cases ry; exact eq_bool (fin_bl I q dec_bl)
    | str j => obtain ⟨t', rfl⟩ := ry; exact PySem.EqMixed.eq_bool_str (fin_bl I q (by simp))
    | _ => exact absurd (show false = true from hs) Bool.false_ne_true
  | int i =>
    obtain ⟨t, rfl⟩ := rx
    cases y with
    | non => cases ry; exact PySem.EqNone.eq_int_none (fin_bl I q (by simp))
    | int j => obtain ⟨t', rfl⟩ := ry; exact eq_int (fin_bl I q dec_int)
    | str j => obtain ⟨t', rfl⟩ := ry; exact PySem.EqMixed.eq_int_str (fin_bl I q (by simp))
    | _ => exact absurd (show false = true from hs) Bool.false_ne_true
  | str i =>
    obtain ⟨t, rfl⟩ := rx
    cases y with
    | non => cases ry; exact PySem.EqNone.eq_str_none (fin_bl I q (by simp))
    | bl j => cases ry; exact PySem.EqMixed.eq_str_bool (fin_bl I q (by simp))
    | int j => obtain ⟨t', rfl⟩ := ry; exact PySem.EqMixed.eq_str_int (fin_bl I q (by simp))
    | str j => obtain ⟨t', rfl⟩ := ry; exact eq_str (fin_bl I q dec_str)
    | _ => exact absurd (show false = true from hs) Bool.false_ne_true
  | byt i =>
    obtain ⟨t, rfl⟩ := rx
    cases y with
    | byt j => obtain ⟨t', rfl⟩ := ry; exact PySem.W.eq_bytes (fin_bl I q dec_byt)
    | _ => exact absurd (show false = true from hs) Bool.false_ne_true
  | _ => cases y <;> exact absurd (show false = true from hs) Bool.false_ne_true
theorem op_ne : OpR X (compareOp .NotEq) rNe := by
  intro pins s σ H x y v u Q I rx ry h
  obtain ⟨hs, q⟩ := h
  cases x with
  | non =>
    cases rx
    cases y with
    | non => cases ry; exact PySem.EqNone.ne_none_none (fin_bl I q (by simp))
    | bl j => cases ry; exact PySem.EqNone.ne_none_bool (fin_bl I q (by simp))
    | int j => obtain ⟨t', rfl⟩ := ry; exact PySem.EqNone.ne_none_int (fin_bl I q (by simp))
    | str j => obtain ⟨t', rfl⟩ := ry; exact PySem.EqNone.ne_none_str (fin_bl I q (by simp))
    | _ => exact absurd (show false = true from hs) Bool.false_ne_true
  | bl i =>
    cases rx
    cases y with
    | non => cases ry; exact PySem.EqNone.ne_bool_none (fin_bl I q (by simp))
    | bl j => cases ry; exact ne_bool (fin_bl I q (congrArg not dec_bl))
    | str j => obtain ⟨t', rfl⟩ := ry; exact PySem.EqMixed.ne_bool_str (fin_bl I q (by simp))
    | _ => exact absurd (show false = true from hs) Bool.false_ne_true
  | int i =>
    obtain ⟨t, rfl⟩ := rx
    cases y with
    | non => cases ry; exact PySem.EqNone.ne_int_none (fin_bl I q (by simp))
    | int j => obtain ⟨t', rfl⟩ := ry; exact ne_int (fin_bl I q (congrArg not dec_int))
    | str j => obtain ⟨t', rfl⟩ := ry; exact PySem.EqMixed.ne_int_str (fin_bl I q (by simp))
    | _ => exact absurd (show false = true from hs) Bool.false_ne_true
  | str i =>
    obtain ⟨t, rfl⟩ := rx
    cases y with
    | non => cases ry; exact PySem.EqNone.ne_str_none (fin_bl I q (by simp))
    | bl j => cases ry; exact PySem.EqMixed.ne_str_bool (fin_bl I q (by simp))
    | int j => obtain ⟨t', rfl⟩ := ry; exact PySem.EqMixed.ne_str_int (fin_bl I q (by simp))
    | str j => obtain ⟨t', rfl⟩ := ry; exact ne_str (fin_bl I q (congrArg not dec_str))
    | _ => exact absurd (show false = true from hs) Bool.false_ne_true
  | byt i =>
    obtain ⟨t, rfl⟩ := rx
    cases y with
    | byt j => obtain ⟨t', rfl⟩ := ry; exact PySem.W.ne_bytes (fin_bl I q (congrArg not dec_byt))
    | _ => exact absurd (show false = true from hs) Bool.false_ne_true
  | _ => cases y <;> exact absurd (show false = true from hs) Bool.false_ne_true
theorem op_lt : OpR X (compareOp .Lt) (rI0 fun i j => .bl (decide (i < j))) := opB0 fun _ _ _ _ _ _ _ q => lt_int q
theorem op_gt : OpR X (compareOp .Gt) (rI0 fun i j => .bl (decide (j < i))) := opB0 fun _ _ _ _ _ _ _ q => gt_int q
theorem op_ge : OpR X (compareOp .GtE) (rI0 fun i j => .bl (decide (j ≤ i))) := opB0 fun _ _ _ _ _ _ _ q => ge_int q
/-- two rules for one operation: by cases -/
theorem OpR.or {f : Value → Value → Sem Value} {r r' : R2} (h : OpR X f r) (h' : OpR X f r') : OpR X f (fun x y H Q => r x y H Q ∨ r' x y H Q) := by
  intro pins s σ H x y v u Q I rx ry q
  rcases q with q | q
  · exact h pins s σ H x y v u Q I rx ry q
  · exact h' pins s σ H x y v u Q I rx ry q
theorem nomark (b : Expr) {op : CmpOp} (h : op ≠ .In := by decide) (h2 : op ≠ .NotIn := by decide) : behindInMarks op b = false := by
  have e1 : (op == CmpOp.In) = false := by cases op <;> first | rfl | exact absurd rfl h
  have e2 : (op == CmpOp.NotIn) = false := by cases op <;> first | rfl | exact absurd rfl h2
  cases b <;> simp [behindInMarks, e1, e2]
/-- a comparison as a value; hm: nomark b, or (for in, not in) by with_unfolding_all rfl -/
theorem pe_cmpR {op : CmpOp} {r : R2} (ho : OpR X (compareOp op) r) (ha : PE X a ta) (hb : PE X b tb) (hm : behindInMarks op b = false) : PE X (.Compare a [op] [b] pos) (tOp r ta tb) := by
  intro pins s σ H Q I h
  exact wpAny_Compare1 (binT ha hb I h fun v u s2 x y H2 I2 rx ry q => ho pins s2 σ H2 x y v u Q I2 rx ry q) hm
/-- a reading of a value as a test -/
def tTest (t : TE) : TT := fun σ H Q => t σ H fun x H' => ∃ k, x = .bl k ∧ Q k H'
theorem pt_cmpR {op : CmpOp} {r : R2} (ho : OpR X (compareOp op) r) (ha : PE X a ta) (hb : PE X b tb) (hm : behindInMarks op b = false) : PT X (.Compare a [op] [b] pos) (tTest (tOp r ta tb)) := by
  intro pins s σ H Q I h
  refine wpAny_isTrue_Compare1 (thn (ha pins s σ H _ I h) fun v s1 ⟨x, H1, I1, r1, q1⟩ => thn (hb pins s1 σ H1 _ I1 q1) fun u s2 ⟨y, H2, I2, r2, q2⟩ =>
    thn (ho pins s2 σ H2 x y v u _ I2 r1 r2 q2) fun c s3 ⟨z, H3, I3, r3, k, e, q3⟩ => ?_) hm
  subst e
  cases r3
  exact wpAny_truthy_bool ⟨H3, I3, q3⟩
/-- a op1 b op2 c -/
def tChain (r r' : R2) (ta tb tc : TE) : TE := fun σ H Q => ta σ H fun x H1 => tb σ H1 fun y H2 => r x y H2 fun z H3 => ∃ k, z = .bl k ∧
  (if k = true then tc σ H3 fun w' H4 => r' y w' H4 Q else Q (.bl false) H3)
theorem line63 : (sizeLine : Nat) < 2 ^ 63 := by rw [sizeLine_eq]; decide
/-! ### scalar builtins, by CallR -/
theorem vals1 {x : V} {us : List Value} (r : Vals [x] us) : ∃ u, us = [u] ∧ RelV x u := by
  cases r with
  | cons r1 r2 => cases r2; exact ⟨_, rfl, r1⟩
theorem vals2 {x y : V} {us : List Value} (r : Vals [x, y] us) : ∃ u w', us = [u, w'] ∧ RelV x u ∧ RelV y w' := by
  cases r with
  | cons r1 r2 =>
    cases r2 with
    | cons r3 r4 => cases r4; exact ⟨_, _, rfl, r1, r3⟩
theorem call_int1 : CallR X (.type "int") (fun xs H Q => (∃ i, xs = [.int i] ∧ Q (.int i) H) ∨ ∃ k, xs = [.bl k] ∧ Q (.int (if k then 1 else 0)) H) := by
  intro pins s σ H xs us Q I r h
  rcases h with ⟨i, rfl, q⟩ | ⟨k, rfl, q⟩
  · obtain ⟨u, rfl, t, rfl⟩ := vals1 r
    exact call_int_int ⟨.int i, H, I, ⟨_, rfl⟩, q⟩
  · obtain ⟨u, rfl, r1⟩ := vals1 r
    cases r1
    exact call_int_bool ⟨.int (if k then 1 else 0), H, I.tok _, ⟨_, rfl⟩, q⟩
end
end L2
namespace L2
open PySem PySem.Spec PyProof.Rows
/-! ### an instance, its attributes a map -/
structure ObjM (h : Heap) (x dx C : Addr) (mA : Str → Option Value) : Prop where
  obj : h.get? x = some (PySem.W.instObj C dx)
  ns : h.Ns1 dx mA
  ne : dx ≠ x
theorem lookIn_ns {h : Heap} {dx : Addr} {mA : Str → Option Value} (n : h.Ns1 dx mA) : ∃ od, h.get? dx = some od ∧ ∀ name, PySem.W.lookIn name od = some (mA name) := by
  obtain ⟨o, es, ep, ho, hd, hk, _, hm⟩ := n
  refine ⟨o, ho, fun name => ?_⟩
  have e := hm name
  unfold nsFind findBy at e
  rw [← Array.find?_toList] at e
  unfold PySem.W.lookIn
  rw [hd]
  dsimp only
  split
  · rename_i y q
    rw [q] at e
    exact congrArg some e
  · rename_i q
    rw [q] at e
    have a : es.toList.any (·.refKey) = false := by
      rw [List.any_eq_false]
      intro y hy
      obtain ⟨z, t, hkey⟩ := hk y (Array.mem_toList_iff.mp hy)
      simp [DictEntry.refKey, hkey]
    have a' : ¬ es.toList.any (·.refKey) = true := by rw [a]; exact Bool.false_ne_true
    rw [if_neg a']
    exact congrArg some e
theorem ObjM.look {h : Heap} {x dx C : Addr} {mA : Str → Option Value} (I : ObjM h x dx C mA) : ∃ od, PySem.W.InstAt h x (PySem.W.instObj C dx) C (some od) ∧ ∀ name, PySem.W.lookIn name od = some (mA name) :=
  let ⟨od, ho, hl⟩ := lookIn_ns I.ns
  ⟨od, ⟨I.obj, rfl, rfl, ho⟩, hl⟩
section
variable {prog : Program} {w : World} {A : Around} {E : Value → Shared → Prop} {s : Shared} {K : PySem.W.Frag} {x dx C f : Addr} {mA : Str → Option Value} {name : Str} {v : Value}
end
/-! ### the attributes as a list of pairs -/
def putF (f : Str) (v : V) : List (Str × V) → List (Str × V)
  | [] => [(f, v)]
  | (g, x) :: r => if g = f then (g, v) :: r else (g, x) :: putF f v r
theorem RelO.some_of {v : V} {o : Option Value} (r : RelO (some v) o) : ∃ u, o = some u ∧ RelV v u := by
  cases o with
  | none => exact (show False from r).elim
  | some u => exact ⟨u, rfl, r⟩
section
variable {P : Program} {w : World} {H H' : Hp} {h h' : Heap} {a C dx : Addr} {fs fs' : List (Str × V)}
theorem ins_get (hok : HOk P w H h) (e : H a = some (.ins C dx fs)) : ∃ mA, ObjM h a dx C mA ∧ (∀ f, RelO (fs.lookup f) (mA f)) ∧ PySem.Within mA (fs.map (·.1)) ∧ fs.length ≤ 1000 ∧ H dx = some (.own a) := by
  obtain ⟨d, z, ne, ob, mA, n, r, q⟩ := (show ObjOk P w H h a (.ins C dx fs) from hok a _ e)
  exact ⟨mA, ⟨ob, n, ne⟩, r, q, z, d⟩
end
/-! ### what of the text a class must have -/
structure Cls (K : PySem.W.Frag) (C : Addr) : Prop where
  pg : PySem.W.plainGet K C Str.empty = true
  hd : PySem.W.hasDictIn K C = true
  po : PySem.W.plainOver K C = true
  sa : PySem.W.findIn K (.ref C) "__setattr__" = some (some (.builtin "object.__setattr__"))
theorem Cls.get {K : PySem.W.Frag} {C : Addr} (c : Cls K C) (f : Str) : PySem.W.plainGet K C f = true := c.pg
/-- no class of it has the name -/
def NoAttr (K : PySem.W.Frag) (C : Addr) (f : Str) : Prop := PySem.W.findIn K (.ref C) f = some none
/-- a constant of the class -/
structure Con (K : PySem.W.Frag) (C : Addr) (f : Str) (v : V) (u : Value) : Prop where
  at_ : PySem.W.findIn K (.ref C) f = some (some u)
  rel : RelV v u
  get : PySem.W.specialIn K u "__get__" = some none
  cp : PySem.W.copiedNames.contains f = false
/-- a method: a plain def of the class or of one above it -/
structure Meth (K : PySem.W.Frag) (C : Addr) (m : Str) (f : Addr) : Prop where
  at_ : PySem.W.findIn K (.ref C) m = some (some (.ref f))
  fn : PySem.W.isFn K (.ref f) = true
  kp : PySem.W.keepIn K (.ref f) = true
section
variable {X : Cx} {pins : List (Addr × Obj)} {σ : St} {H : Hp} {s : Shared} {a C dx : Addr} {fs : List (Str × V)} {f : Str} {v : V} {A : Around} {E : Value → Shared → Prop}
/-- a new instance, tracked, without attributes -/
theorem Inv.made (I : Inv X pins σ H s) : Inv X pins σ (upd (upd H s.heap.objs.size (.own (s.heap.objs.size + 1))) (s.heap.objs.size + 1) (.ins C s.heap.objs.size []))
    { s with heap := (s.heap.push PySem.W.emptyDict).push (PySem.W.instObj C s.heap.objs.size) } := by
  have e1 : (s.heap.push PySem.W.emptyDict).get? s.heap.objs.size = some PySem.W.emptyDict := Heap.get?_push_size s.heap rfl
  have e2 : ((s.heap.push PySem.W.emptyDict).push (PySem.W.instObj C s.heap.objs.size)).get? (s.heap.objs.size + 1) = some (PySem.W.instObj C s.heap.objs.size) := by
    have := Heap.get?_push_size (s.heap.push PySem.W.emptyDict) (o := PySem.W.instObj C s.heap.objs.size) rfl
    rwa [Heap.size_push] at this
  have e3 : (s.heap.push PySem.W.emptyDict).Ns s.heap.objs.size (fun _ => none) := ⟨PySem.W.emptyDict, #[], _, e1, rfl, (fun e he => absurd he (by simp)), fun _ => rfl⟩
  have I1 := I.laid (a := s.heap.objs.size) (o := .own (s.heap.objs.size + 1)) (h' := s.heap.push PySem.W.emptyDict) (t' := s.toks) (fun b u q => Heap.get?_push_of_some _ q) (Nat.le_refl _) ⟨_, e1⟩
  refine I1.laid (a := s.heap.objs.size + 1) (o := .ins C s.heap.objs.size []) (t' := s.toks) (fun b u q => Heap.get?_push_of_some _ q) (Nat.le_of_eq (Heap.size_push _ _)) ?_
  have ne : s.heap.objs.size ≠ s.heap.objs.size + 1 := Nat.ne_of_lt (Nat.lt_succ_self _)
  refine ⟨by rw [upd_ne ne, upd_same], Nat.zero_le _, ne, e2, fun _ => none, (Heap.Ns1.of_empty e3).at fun o q => Heap.get?_push_of_some _ q, fun _ => True.intro, fun y hy => absurd rfl hy⟩
end
/-! ### readings and rules -/
/-- e.f, an attribute of the instance -/
def tFld (K : PySem.W.Frag) (ta : TE) (f : Str) : TE := fun σ H Q => ta σ H fun x H1 => ∃ a C dx fs v, x = .ref a ∧ H1 a = some (.ins C dx fs) ∧ Cls K C ∧ NoAttr K C f ∧ fs.lookup f = some v ∧ Q v H1
section
variable {X : Cx} {o e value : Expr} {f : Str} {pos pos' tpos : Pos} {ta tv : TE}
end
/-! ### isinstance -/
section
variable {X : Cx} {pins : List (Addr × Obj)} {σ : St} {H : Hp} {s : Shared} {A : Around} {E : Value → Shared → Prop} {Q : Value → Shared → Prop} {c : Value} {b : Bool}
/-- the type of a value, as the fragment's deciders take it; for an instance its class -/
inductive TyOf (K : PySem.W.Frag) (H : Hp) : V → Value → Prop where
  | non : TyOf K H .non (.type "NoneType")
  | bl (x : Bool) : TyOf K H (.bl x) (.type "bool")
  | int (i : Int) : TyOf K H (.int i) (.type "int")
  | str (x : Str) : TyOf K H (.str x) (.type "str")
  | flt (x : UInt64) : TyOf K H (.flt x) (.type "float")
  | lst {a : Addr} {xs : List V} (e : H a = some (.lst xs)) : TyOf K H (.ref a) (.type "list")
  | frz {a : Addr} {o : Obj} {xs : List V} (e : H a = some (.frz o (.lst xs))) : TyOf K H (.ref a) (.type "list")
  | tup {a : Addr} {xs : List V} (e : H a = some (.tup xs)) : TyOf K H (.ref a) (.type "tuple")
  | dK {a : Addr} {kvs : List (Key × V)} (e : H a = some (.dK kvs)) : TyOf K H (.ref a) (.type "dict")
  | dT {a : Addr} {kvs : List (List Key × V)} (e : H a = some (.dT kvs)) : TyOf K H (.ref a) (.type "dict")
  | ins {a C dx : Addr} {fs : List (Str × V)} (e : H a = some (.ins C dx fs)) (cl : Cls K C) (ha : PySem.W.findIn K (.ref C) "__class__" = some (some (.builtin "object.__class__")))
      (hn : PySem.W.specialIn K (.builtin "object.__class__") "__get__" = some (some (.builtin "getset_descriptor.__get__"))) (htk : PySem.W.takesIn K (.builtin "object.__class__") = some true)
      (hm : PySem.W.mroIn K C (.type "object") = some true) : TyOf K H (.ref a) (.ref C)
/-- isinstance(x, c) for one class c, a built-in or an own one: kitOne's answer -/
theorem isinst_ok {x : V} {u t : Value} (I : Inv X pins σ H s) (rx : RelV x u) (ty : TyOf X.K H x t) (e : PySem.W.kitOne X.K t c = some b) (h : ∀ tk, Q (.bool b) { s with toks := tk }) :
    wpAny (model X.prog X.w) A (call (.builtin "isinstance") [u, c]) Q E s := by
  cases ty with
  | non => cases (show u = Value.none from rx); exact PySem.W.kia_one PySem.W.kitx_none I.kIn True.intro e (fun z => nomatch z) h
  | bl y => cases (show u = Value.bool y from rx); exact PySem.W.kia_one PySem.W.kitx_bool I.kIn True.intro e (fun z => nomatch z) h
  | int i => obtain ⟨t, q⟩ := (show ∃ t, u = Value.int i t from rx); cases q; exact PySem.W.kia_one PySem.W.kitx_int I.kIn True.intro e (fun z => nomatch z) h
  | str y => obtain ⟨t, q⟩ := (show ∃ t, u = Value.str y t from rx); cases q; exact PySem.W.kia_one PySem.W.kitx_str I.kIn True.intro e (fun z => nomatch z) h
  | flt y => obtain ⟨t, q⟩ := (show ∃ t, u = Value.float y t from rx); cases q; exact PySem.W.kia_one PySem.W.kitx_float I.kIn True.intro e (fun z => nomatch z) h
  | @lst a xs ea =>
    cases (show u = Value.ref a from rx)
    obtain ⟨_, _, n, _, h1⟩ := (show ObjOk X.prog X.w H s.heap a (.lst xs) from I.hok a _ ea)
    exact PySem.W.kia_one PySem.W.kitx_list I.kIn ⟨_, h1, rfl⟩ e (fun z => nomatch z) h
  | @frz a ob xs ea =>
    cases (show u = Value.ref a from rx)
    obtain ⟨_, _, _, n, _, h1⟩ := (show ObjOk X.prog X.w H s.heap a (.frz ob (.lst xs)) from I.hok a _ ea)
    exact PySem.W.kia_one PySem.W.kitx_list I.kIn ⟨_, h1, rfl⟩ e (fun z => nomatch z) h
  | @tup a xs ea =>
    cases (show u = Value.ref a from rx)
    obtain ⟨_, _, _, p⟩ := (show ObjOk X.prog X.w H s.heap a (.tup xs) from I.hok a _ ea)
    obtain ⟨o, h1, h2, _⟩ := p
    exact PySem.W.kia_one PySem.W.kitx_tuple I.kIn ⟨o, h1, h2⟩ e (fun z => nomatch z) h
  | @dK a kvs ea =>
    cases (show u = Value.ref a from rx)
    obtain ⟨_, _, vs, _, p⟩ := (show ObjOk X.prog X.w H s.heap a (.dK kvs) from I.hok a _ ea)
    obtain ⟨o, es, ep, h1, h2, _⟩ := p
    exact PySem.W.kia_one PySem.W.kitx_dict I.kIn ⟨o, h1, h2.1⟩ e (fun z => nomatch z) h
  | @dT a kvs ea =>
    cases (show u = Value.ref a from rx)
    obtain ⟨_, _, xs, _, o, es, ep, h1, h2, _⟩ := (show ObjOk X.prog X.w H s.heap a (.dT kvs) from I.hok a _ ea)
    exact PySem.W.kia_one PySem.W.kitx_dict I.kIn ⟨o, h1, h2.1⟩ e (fun z => nomatch z) h
  | @ins a C dx fs ea cl ha hn htk hm =>
    cases (show u = Value.ref a from rx)
    obtain ⟨mA, O, _⟩ := ins_get I.hok ea
    obtain ⟨od, J, _⟩ := O.look
    exact PySem.W.kia_one (PySem.W.kitx_own (cl.get _) cl.hd ha hn htk hm) I.kIn J e (fun z => nomatch z) h
end
end L2
namespace L2
open PySem PySem.Spec PyProof.Rows
/-! ### room -/
structure Room (k : Nat) (A : Around) : Prop where
  hd : A.handled = none
  dp : A.depth + 3 * k + 5 < recursionLimit
  un : A.units + 16 * k + 200 < cLine
theorem Room.mono {j k : Nat} {A : Around} (r : Room k A) (h : j ≤ k) : Room j A := ⟨r.hd, by have := r.dp; omega, by have := r.un; omega⟩
theorem Room.deeper {k : Nat} {A : Around} (r : Room (k + 1) A) (env : Env) : Room k (A.deeper env) :=
  ⟨r.hd, by have := r.dp; show A.depth + 1 + 3 * k + 5 < _; omega, by have := r.un; show A.units + 3 + 16 * k + 200 < _; omega⟩
theorem Room.in1 {k : Nat} {A : Around} (r : Room (k + 1) A) : Room k A.in1 :=
  ⟨r.hd, by have := r.dp; show A.depth + 3 * k + 5 < _; omega, by have := r.un; show A.units + 1 + 16 * k + 200 < _; omega⟩
theorem make_depth {A : Around} {C : Addr} {us : List Value} {kw : List (Str × Value)} : (A.under (.builtin "type.__call__" ⟨.ref C :: us, kw⟩)).depth = A.depth + 1 := by
  first | rfl | simp [Around.under, Code.weight, Code.isCreation, Code.isGuard, Code.isCaller, Code.frames, Code.isFrame, guardIds]
theorem make_units {A : Around} {C : Addr} {us : List Value} {kw : List (Str × Value)} : (A.under (.builtin "type.__call__" ⟨.ref C :: us, kw⟩)).units = A.units + 1 := by
  first | rfl | simp [Around.under, Code.cUnits, Code.frames, Code.isFrame]
theorem Room.make {k : Nat} {A : Around} (r : Room (k + 1) A) (C : Addr) (us : List Value) (kw : List (Str × Value)) : Room k (A.under (.builtin "type.__call__" ⟨.ref C :: us, kw⟩)) :=
  ⟨r.hd, by have := r.dp; rw [make_depth]; omega, by have := r.un; rw [make_units]; omega⟩
theorem Room.depth {k : Nat} {A : Around} (r : Room k A) : A.depth < recursionLimit := by have := r.dp; omega
theorem Room.units {k : Nat} {A : Around} (r : Room k A) : A.units + 64 < cLine := by have := r.un; omega
/-! ### argument lists and displays -/
def tNil : TA := fun _ H Q => Q [] H
def tCons (ta : TE) (tr : TA) : TA := fun σ H Q => ta σ H fun x H1 => tr σ H1 fun xs H2 => Q (x :: xs) H2
section
variable {X : Cx} {e : Expr} {es : List Expr} {te : TE} {t : TA} {pos : Pos}
theorem pa_nil : PA X [] tNil := fun _ _ _ _ H Q I h => Calls.spliced_nil ⟨[], H, I, .nil, h⟩
theorem pa_cons (ha : PE X e te) (hr : PA X es t) (hs : starEach (e :: es) X.env = (false, eval e X.env) :: starEach es X.env := by rfl) : PA X (e :: es) (tCons te t) := by
  intro pos pins s σ H Q I h
  rw [hs]
  show wpAny _ _ (spliced ((false, eval e X.env) :: backTo pos (starEach es X.env))) _ _ s
  refine Calls.spliced_cons (thn (ha pins s σ H _ I h) fun u s1 ⟨x, H1, I1, r1, q1⟩ => ?_)
  exact thn (hr pos pins s1 σ H1 _ I1 q1) fun us s2 ⟨xs, H2, I2, r2, q2⟩ => ⟨x :: xs, H2, I2, .cons r1 r2, q2⟩
/-- a tuple, a list of written items -/
def tTup (t : TA) : TE := fun σ H Q => t σ H fun xs H1 => xs.length ≤ sizeLine ∧ ∀ p, H1 p = none → Q (.ref p) (upd H1 p (.tup xs))
def tLst (t : TA) : TE := fun σ H Q => t σ H fun xs H1 => xs.length ≤ sizeLine ∧ ∀ p, H1 p = none → Q (.ref p) (upd H1 p (.lst xs))
end
/-! ### what a def promises -/
/-- a def's promise: the bound arguments in the parameters' order, the heap, the wanted end, the wanted exception -/
abbrev Sp := List V → Hp → VK → XK → Prop
/-- how an exception lies behind a call (file 08 gives it): the callers' frames, abstract heap and state ahead of the call, the wish, the exception, the state -/
abbrev CXT := List Env → Hp → Shared → XK → Value → Shared → Prop
/-- the state at a call -/
structure Env0 (P : Program) (w : World) (K : PySem.W.Frag) (mg : Str → Option Value) (base : Heap) (A : Around) (outer : List Env) (s : Shared) (H : Hp) : Prop where
  frames : A.frames = some outer
  mod : Mod K mg base
  bs : ∀ b o, base.get? b = some o → s.heap.get? b = some o ∧ H b = none
  bsz : base.objs.size ≤ s.heap.objs.size
  funs : s.heap.FunFrames base outer
  frf : ∀ b ∈ frs outer, H b = none
  hok : HOk P w H s.heap
  bare : AllBare s.gens
/-- a call's end -/
def CE (outer : List Env) (P : Program) (w : World) (H : Hp) (s : Shared) (Q : VK) (u : Value) (s' : Shared) : Prop :=
  ∃ v H', s'.os = s.os ∧ AllBare s'.gens ∧ Un (frs outer) [] H H' s.heap s'.heap ∧ HOk P w H' s'.heap ∧ RelV v u ∧ Q v H'
def CR (CX : CXT) (outer : List Env) (P : Program) (w : World) (H : Hp) (s : Shared) (Q : VK) (E : XK) (r : Result) (s' : Shared) : Prop :=
  match r with
  | .ok (.ret u) => CE outer P w H s Q u s'
  | .ok _ => False
  | .error e => CX outer H s E e s'
structure FnOk (P : Program) (w : World) (K : PySem.W.Frag) (mg : Str → Option Value) (base : Heap) (CX : CXT) (k : Nat) (f : Addr) (fd : FuncData) (ps : List Str) (sp : Sp) : Prop where
  len : ∀ vs H Q E, sp vs H Q E → vs.length = ps.length
  run : ∀ (A : Around) (outer : List Env) (s : Shared) (H : Hp) (args : Args) (us : List Value) (vs : List V) (Q : VK) (E : XK), Room k A → Env0 P w K mg base A outer s H → BindsTo s fd args (ps.zip us) → Vals vs us → sp vs H Q E →
    codeAny (model P w) A (.call (.ref f) args) (CR CX outer P w H s Q E) s
theorem FnOk.mono {P : Program} {w : World} {K : PySem.W.Frag} {mg : Str → Option Value} {base : Heap} {CX : CXT} {j k : Nat} {f : Addr} {fd : FuncData} {ps : List Str} {sp : Sp} (F : FnOk P w K mg base CX j f fd ps sp) (h : j ≤ k) :
    FnOk P w K mg base CX k f fd ps sp := ⟨F.len, fun A outer s H args us vs Q E hr => F.run A outer s H args us vs Q E (hr.mono h)⟩
theorem Env0.make {P : Program} {w : World} {K : PySem.W.Frag} {mg : Str → Option Value} {base : Heap} {A : Around} {outer : List Env} {s : Shared} {H : Hp} (e : Env0 P w K mg base A outer s H) (C : Addr) (us : List Value) (kw : List (Str × Value)) :
    Env0 P w K mg base (A.under (.builtin "type.__call__" ⟨.ref C :: us, kw⟩)) outer s H := ⟨by first | exact e.frames | (simpa [Around.under, Code.envs, Code.isFrame, pushEnvs] using e.frames), e.mod, e.bs, e.bsz, e.funs, e.frf, e.hok, e.bare⟩
theorem Env0.in1 {P : Program} {w : World} {K : PySem.W.Frag} {mg : Str → Option Value} {base : Heap} {A : Around} {outer : List Env} {s : Shared} {H : Hp} (e : Env0 P w K mg base A outer s H) :
    Env0 P w K mg base A.in1 outer s H := ⟨e.frames, e.mod, e.bs, e.bsz, e.funs, e.frf, e.hok, e.bare⟩
section
variable {X : Cx} {pins : List (Addr × Obj)} {σ : St} {H : Hp} {s s' : Shared}
/-- from a body: what a callee wants -/
theorem Inv.env0 (I : Inv X pins σ H s) : Env0 X.prog X.w X.K X.mg X.base X.A X.stack s H :=
  ⟨I.ok.frames, I.ok.mod, I.bs, Nat.le_trans I.ok.bsz I.sz, I.stack, I.stkFree, I.hok, I.bare⟩
/-- behind a call -/
theorem Inv.after {Q : VK} {u : Value} (I : Inv X pins σ H s) (h : CE X.stack X.prog X.w H s Q u s') : EP X pins σ Q u s' := by
  obtain ⟨v, H', os, bare, un, hok, r, q⟩ := h
  obtain ⟨hh, g, d, t, os'⟩ := s'
  obtain rfl : os' = s.os := os
  exact ⟨v, H', I.call (h' := hh) (g' := g) (d' := d) (t' := t) (ch := []) un hok bare (fun b z => absurd z (by simp)), r, q⟩
end
/-! ### calls -/
/-- f(..): the written arguments, then the defaults dvs; E: what is wanted of an exception -/
def tCall (sp : Sp) (dvs : List V) (E : XK) (t : TA) : TE := fun σ H Q => t σ H fun vs H1 => sp (vs ++ dvs) H1 Q E
/-- how the parameters are bound: us the positional arguments, kw the keywords' values by name, ds the defaults that fill up -/
def Binds (K : PySem.W.Frag) (fd : FuncData) (ps : List Str) (ds : List Value) : Prop :=
  ∀ (s : Shared) (us : List Value), K.In s.heap → (us ++ ds).length = ps.length → BindsTo s fd ⟨us, []⟩ (ps.zip (us ++ ds))
/-- every parameter is given -/
theorem Binds.all {K : PySem.W.Frag} {fd : FuncData} {ps : List Str} (h : ∀ us : List Value, us.length = ps.length → bindArgs fd ⟨us, []⟩ = pure (ps.zip us)) : Binds K fd ps [] := fun s us _ hl => by
  rw [List.append_nil] at hl ⊢
  exact .of_eq (h us hl)
/-- an exception of a callee reaches what this body wants of exceptions -/
def Passes (CX : CXT) (X : Cx) (E : XK) : Prop := ∀ (pins : List (Addr × Obj)) (σ : St) (H : Hp) (s : Shared) (e : Value) (s' : Shared), Inv X pins σ H s → CX X.stack H s E e s' → X.xe e s'
section
variable {X : Cx} {CX : CXT} {k : Nat} {f C : Addr} {fd : FuncData} {ps : List Str} {sp : Sp} {dvs : List V} {ds : List Value} {E : XK} {x m : Str} {p pos apos : Pos} {e o : Expr} {es : List Expr} {ta : TE} {t : TA}
/-- the callee runs -/
theorem run_fn {pins : List (Addr × Obj)} {σ : St} {H : Hp} {s : Shared} {Q : VK} {us : List Value} {vs : List V} (F : FnOk X.prog X.w X.K X.mg X.base CX k f fd ps sp) (hr : Room k X.A) (hb : Binds X.K fd ps ds) (hd : Vals dvs ds) (hx : Passes CX X E)
    (I : Inv X pins σ H s) (r : Vals vs us) (h : sp (vs ++ dvs) H Q E) : wpAny (model X.prog X.w) X.A (call (.ref f) us) (EP X pins σ Q) X.xe s := by
  have r2 : Vals (vs ++ dvs) (us ++ ds) := r.append hd
  have hl : (us ++ ds).length = ps.length := by rw [← r2.length]; exact F.len _ _ _ _ h
  refine wpAny_call (codeAny_mono (F.run X.A X.stack s H ⟨us, []⟩ (us ++ ds) (vs ++ dvs) Q E hr I.env0 (hb s us I.kIn hl) r2 h) fun r s' hq => ?_)
  cases r with
  | error e => exact hx pins σ H s e s' I hq
  | ok fl =>
    cases fl with
    | ret u => exact I.after hq
    | next => exact False.elim hq
    | brk => exact False.elim hq
    | cont => exact False.elim hq
theorem pe_call (F : FnOk X.prog X.w X.K X.mg X.base CX k f fd ps sp) (hr : Room k X.A) (hg : Gl X x) (hm : X.mg x = some (.ref f)) (hk : PySem.W.keepIn X.K (.ref f) = true) (hb : Binds X.K fd ps ds) (hd : Vals dvs ds) (hx : Passes CX X E)
    (ha : PA X (e :: es) t) (hdb : (x == ("__debug__" : Str)) = false := by decide) (he : starEach (e :: es) X.env = (false, eval e X.env) :: starEach es X.env := by rfl) (hpl : (backTo pos (starEach es X.env)).any (·.1) = false := by rfl) :
    PE X (.Call (.Name x p) (e :: es) [] pos) (tCall sp dvs E t) := by
  intro pins s σ H Q I h
  refine wpAny_Call_Name_kw (ld_glob I hg hm ?_ hdb)
  refine PySem.W.callWith_K (h₀ := X.base) I.ok.mod.kin hk (thn (ha pos pins s σ H _ I h) fun us s1 ⟨vs, H1, I1, r, q⟩ => ⟨I1.kIn, ?_⟩) he hpl
  exact run_fn F hr hb hd hx I1 r q
/-- what a class must have to be made -/
structure Mk (K : PySem.W.Frag) (C f : Addr) : Prop where
  makes : PySem.W.makesIn K C = true
  init : PySem.W.findIn K (.ref C) "__init__" = some (some (.ref f))
  fn : PySem.W.isFn K (.ref f) = true
  kp : PySem.W.keepIn K (.ref C) = true
end
section
variable {X : Cx} {CX : CXT} {k : Nat} {f C : Addr} {fd : FuncData} {ps ks : List Str} {sp : Sp} {E : XK} {x m : Str} {p pos apos kpos : Pos} {e o : Expr} {es : List Expr} {kws : List Keyword} {te ta : TE} {t tk : TA} {nm : Option Str}
/-- how a call with keywords binds: g puts the positional values us and the keywords' values ws (names ks) in the parameters' order, defaults among them -/
structure KBinds (K : PySem.W.Frag) (fd : FuncData) (ps ks : List Str) (g : List Value → List Value → List Value) (gV : List V → List V → List V) : Prop where
  to : ∀ (s : Shared) (us ws : List Value), K.In s.heap → (g us ws).length = ps.length → BindsTo s fd ⟨us, ks.zip ws⟩ (ps.zip (g us ws))
  rel : ∀ {vs : List V} {us : List Value} {zs : List V} {ws : List Value}, Vals vs us → Vals zs ws → Vals (gV vs zs) (g us ws)
variable {g : List Value → List Value → List Value} {gV : List V → List V → List V}
end
/-! ### a def's body keeps its promise -/
/-- names: the parameters first -/
structure FnScope (N P : List Str) (sc : Scope) : Prop where
  kind : sc.kind = .function
  co : sc.isCoroutine = false
  gen : sc.isGenerator = false
  nd : N.Nodup
  pre : N.take P.length = P
  par : ∀ x ∈ P, sc.names.lookup x = some .local ∨ sc.names.lookup x = some .cell
  nofree : ∀ y ∈ sc.names, y.2 ≠ .free
theorem bindL_out {kindOf : Str → Option NameKind} {x : Str} : ∀ {binds : List (Str × Value)} {m : Str → Option Value}, (∀ v, (x, v) ∉ binds) → bindL kindOf binds m x = m x
  | [], _, _ => rfl
  | (n, v) :: r, m, h => by
    unfold bindL
    rw [bindL_out fun w hw => h w (List.mem_cons_of_mem _ hw)]
    split
    · have : x ≠ n := by rintro rfl; exact h v List.mem_cons_self
      simp [this]
    · rfl
theorem bindC_out {kindOf : Str → Option NameKind} {x : Str} : ∀ {binds : List (Str × Value)} {m : Str → Option Value}, (∀ v, (x, v) ∉ binds) → bindC kindOf binds m x = m x
  | [], _, _ => rfl
  | (n, v) :: r, m, h => by
    unfold bindC
    rw [bindC_out fun w hw => h w (List.mem_cons_of_mem _ hw)]
    split
    · rfl
    · have : x ≠ n := by rintro rfl; exact h v List.mem_cons_self
      simp [this]
theorem bindL_get {kindOf : Str → Option NameKind} {x : Str} {v : Value} : ∀ {P : List Str} {vs : List Value} {i : Nat} {m : Str → Option Value}, P.Nodup → P[i]? = some x → vs[i]? = some v → kindOf x = some .local →
    bindL kindOf (P.zip vs) m x = some v
  | [], _, _, _, _, h, _, _ => by simp at h
  | _ :: _, [], _, _, _, _, h, _ => by simp at h
  | p :: P, w :: vs, 0, m, nd, h1, h2, hk => by
    simp at h1 h2; subst h1; subst h2
    show bindL kindOf ((p, w) :: P.zip vs) m p = _
    unfold bindL
    rw [bindL_out fun v hv => (List.nodup_cons.mp nd).1 (List.of_mem_zip hv).1, if_pos hk]
    simp
  | p :: P, w :: vs, i + 1, m, nd, h1, h2, hk => by
    show bindL kindOf ((p, w) :: P.zip vs) m x = _
    unfold bindL
    exact bindL_get (i := i) (List.nodup_cons.mp nd).2 (by simpa using h1) (by simpa using h2) hk
theorem bindC_get {kindOf : Str → Option NameKind} {x : Str} {v : Value} : ∀ {P : List Str} {vs : List Value} {i : Nat} {m : Str → Option Value}, P.Nodup → P[i]? = some x → vs[i]? = some v → kindOf x ≠ some .local →
    bindC kindOf (P.zip vs) m x = some v
  | [], _, _, _, _, h, _, _ => by simp at h
  | _ :: _, [], _, _, _, _, h, _ => by simp at h
  | p :: P, w :: vs, 0, m, nd, h1, h2, hk => by
    simp at h1 h2; subst h1; subst h2
    show bindC kindOf ((p, w) :: P.zip vs) m p = _
    unfold bindC
    rw [bindC_out fun v hv => (List.nodup_cons.mp nd).1 (List.of_mem_zip hv).1, if_neg hk]
    simp
  | p :: P, w :: vs, i + 1, m, nd, h1, h2, hk => by
    show bindC kindOf ((p, w) :: P.zip vs) m x = _
    unfold bindC
    exact bindC_get (i := i) (List.nodup_cons.mp nd).2 (by simpa using h1) (by simpa using h2) hk
/-- the names' values at the entry -/
def start (N : List Str) (vs : List V) : St := vs.map some ++ List.replicate (N.length - vs.length) none
/-- the context of a def's body, at its entry; an exception leaves the frame, then lies as CX says -/
def cxOf (CX : CXT) (P : Program) (w : World) (K : PySem.W.Frag) (mg : Str → Option Value) (base : Heap) (N : List Str) (qual : Str) (scope : Scope) (f : Addr) (cd : Value) (A : Around) (outer : List Env) (s : Shared) (H : Hp) (E : XK) : Cx where
  prog := P
  w := w
  K := K
  mg := mg
  base := base
  A := A.deeper (envOfC qual scope s.heap.objs.size f cd)
  N := N
  s₀ := s
  H₀ := H
  env := envOfC qual scope s.heap.objs.size f cd
  outer := outer
  stack := envOfC qual scope s.heap.objs.size f cd :: outer
  ex := []
  calm := true
  fn := fun _ => true
  pn := []
  xe := fun e s' => wpAny (model P w) (A.deeper (envOfC qual scope s.heap.objs.size f cd)) (leaving (envOfC qual scope s.heap.objs.size f cd) e) (fun _ s'' => CX outer H s E e s'') (fun e' s'' => CX outer H s E e' s'') s'
theorem cell_has {sc : Scope} {n : Nat} {x : Str} (h : sc.names.lookup x = some .cell) : ∃ c, (cellsFrom n sc.names []).lookup x = some c := by
  have q := PySem.W.cellsFrom_some sc.names n [] (.inl h)
  exact Option.isSome_iff_exists.mp q
theorem inv_start {CX : CXT} {P : Program} {w : World} {K : PySem.W.Frag} {mg : Str → Option Value} {base : Heap} {N ps : List Str} {qual : Str} {scope : Scope} {f : Addr} {cd : Value} {A : Around} {outer : List Env} {s s1 : Shared} {H : Hp} {E : XK} {us : List Value} {vs : List V}
    (S : FnScope N ps scope) (hd : A.handled = none) (e0 : Env0 P w K mg base A outer s H) (hl : vs.length = ps.length) (r : Vals vs us)
    (x : InCallC s s.heap.objs.size (bindL (envOfC qual scope s.heap.objs.size f cd).kindOf (ps.zip us) fun _ => none) (cellsFrom (s.heap.objs.size + 1) scope.names []) (bindC (envOfC qual scope s.heap.objs.size f cd).kindOf (ps.zip us) fun _ => none) s1) :
    Inv (cxOf CX P w K mg base N qual scope f cd A outer s H E) [] (start N vs) H s1 := by
  have hpl : ps.length ≤ N.length := by have := congrArg List.length S.pre; rw [List.length_take] at this; omega
  obtain ⟨h1, tk, rfl, hk⟩ := x.done
  have noA : ∀ b : Addr, b ∉ (cxOf CX P w K mg base N qual scope f cd A outer s H E).ex := fun b z => absurd (show b ∈ ([] : List Addr) from z) (by simp)
  refine ⟨⟨e0.mod, S.kind, rfl, rfl, Nat.le_refl _, fun y z c h1 h2 => ?_, fun y hy => ?_, fun y c _ h => ?_, fun _ => hd, Around.frames_deeper e0.frames, .inr ⟨rfl, rfl⟩, fun b z => absurd z (noA b), e0.bs, e0.bsz, fun b _ _ => noA b, fun b z => absurd z (noA b), e0.funs, e0.frf⟩,
    rfl, e0.bare, Un.kept hk, ⟨_, x.toInCall.ns, fun i y v h1 h2 h3 => ?_⟩, fun y c h => ⟨_, x.cell y c h⟩, e0.hok.fresh (Nat.le_refl _), fun y c h => ?_, fun p hp => absurd (show p ∈ ([] : List (Addr × Obj)) from hp) (by simp), e0.hok.kept hk, ?_⟩
  · exact name_of_addr x.apart (PySem.mem_of_lookup h1) (PySem.mem_of_lookup h2)
  · have hy : scope.names.lookup y = some .cell ∨ scope.names.lookup y = some .free := hy
    rcases hy with hy | hy
    · exact cell_has hy
    · exact absurd rfl (S.nofree _ (PySem.mem_of_lookup hy))
  · exact Nat.le_of_lt (x.above y c (PySem.mem_of_lookup h))
  · have hi : i < vs.length := by
      unfold start at h2
      by_cases hi : i < vs.length
      · exact hi
      · rw [List.getElem?_append_right (by simpa using hi)] at h2
        rw [List.getElem?_replicate] at h2
        split at h2 <;> cases h2
    have ha : vs[i]? = some v := by
      unfold start at h2
      rw [List.getElem?_append_left (by simpa using hi), List.getElem?_map] at h2
      cases e : vs[i]? with
      | none => rw [e] at h2; cases h2
      | some a => rw [e] at h2; cases h2; rfl
    obtain ⟨u, hu, rv⟩ := r.get ha
    have hp : ps[i]? = some y := by
      rw [← S.pre, List.getElem?_take_of_lt (by omega)]; exact h1
    have ndP : ps.Nodup := by rw [← S.pre]; exact S.nd.sublist (List.take_sublist _ _)
    refine ⟨u, rv, ?_⟩
    rcases S.par y (List.mem_of_getElem? hp) with k | k
    · exact .inl ⟨k, bindL_get ndP hp hu k⟩
    · obtain ⟨c, e⟩ := cell_has (n := s.heap.objs.size + 1) k
      refine .inr ⟨.inl k, c, e, ?_⟩
      have q := x.cell y c e
      rw [bindC_get ndP hp hu (by show scope.names.lookup y ≠ _; rw [k]; decide)] at q
      exact q
  · exact e0.hok.fresh (Nat.le_of_lt (x.above y c (PySem.mem_of_lookup h)))
  · unfold start
    show _ = N.length
    rw [List.length_append, List.length_map, List.length_replicate]
    omega
/-- THE RULE: a def (or a method) of the text, by its body. The body's reading t is chosen for each entry; it is run at the parameters' values -/
theorem fn_of {CX : CXT} {P : Program} {w : World} {K : PySem.W.Frag} {mg : Str → Option Value} {base : Heap} {k : Nat} {f : Addr} {name qual : Str} {params : Arguments} {body : List Stmt} {scope : Scope} {dV kV doc pm cdv ct oc : Value} {an od : Option Addr}
    {osl : Array (Option Value)} {N ps : List Str} {sp : Sp} (lk : K.lookup f = some ⟨oc, od, .func (PySem.W.fnOf name qual params body scope dV kV doc pm an cdv ct), osl⟩) (hcd : PySem.W.codeIn K cdv qual = true) (S : FnScope N ps scope)
    (len : ∀ vs H Q E, sp vs H Q E → vs.length = ps.length)
    (hbody : ∀ (A : Around) (outer : List Env) (s : Shared) (H : Hp) (vs : List V) (Q : VK) (E : XK), Room k (A.deeper (envOfC qual scope s.heap.objs.size f cdv)) → sp vs H Q E →
      ∃ t, PSs (cxOf CX P w K mg base N qual scope f cdv A outer s H E) body t ∧ t { nx := fun _ H' => Q .non H', rt := Q } (start N vs) H) :
    FnOk P w K mg base CX (k + 1) f (PySem.W.fnOf name qual params body scope dV kV doc pm an cdv ct) ps sp := by
  refine ⟨len, fun A outer s H args us vs Q E hr e0 hb r hsp => ?_⟩
  have hl := len _ _ _ _ hsp
  have KX : K.In s.heap := e0.mod.kin.keeps fun b o e => (e0.bs b o e).1
  have lim : s.heap.NoLimit := e0.mod.nolimit.keeps fun b o e => (e0.bs b o e).1
  have hkind : ∀ y ∈ ps.zip us, scope.names.lookup y.1 = some .local ∨ (scope.names.lookup y.1 = some .cell ∧ ((cellsFrom (s.heap.objs.size + 1) scope.names []).lookup y.1).isSome = true) := fun ⟨n, v⟩ hy => by
    rcases S.par n (List.of_mem_zip hy).1 with q | q
    · exact .inl q
    · exact .inr ⟨q, PySem.W.cellsFrom_some _ _ _ (.inl q)⟩
  refine codeAny_call_function hr.depth (KX _ _ lk) rfl S.co S.gen rfl (PySem.W.codeRec_of KX hcd) (hb _ _ _ _ ?_)
  refine wpAny_newFunctionEnv_cells S.kind hkind fun env he s1 x => ?_
  subst he
  refine ⟨lim.keeps x.toInCall.keep, codeAny_func ?_⟩
  obtain ⟨t, ht, hq⟩ := hbody A outer s H vs Q E (hr.deeper _) hsp
  have I : Inv (cxOf CX P w K mg base N qual scope f cdv A outer s H E) [] (start N vs) H s1 := inv_start S hr.hd e0 hl r x
  refine wpAny_mono (ht [] s1 (start N vs) H _ I hq) (fun fl s' hs => ?_) fun e s' hs => hs
  have fin : ∀ {σ' : St} {H' : Hp} {v : V} {u : Value}, Inv (cxOf CX P w K mg base N qual scope f cdv A outer s H E) [] σ' H' s' → RelV v u → Q v H' → CE outer P w H s Q u s' :=
    fun {σ' H' v u} J rv q => ⟨v, H', J.os, J.bare, J.base, J.hok, rv, q⟩
  cases fl with
  | ret u =>
    obtain ⟨v, σ', H', J, rv, q⟩ := hs
    exact fin J rv q
  | next =>
    obtain ⟨σ', H', J, q⟩ := hs
    exact fin (v := V.non) (u := Value.none) J rfl q
  | brk =>
    obtain ⟨_, _, _, q⟩ := hs
    exact False.elim q
  | cont =>
    obtain ⟨_, _, _, q⟩ := hs
    exact False.elim q
end L2
namespace L2
open PySem PySem.Spec PyProof.Rows
section
variable {X : Cx} {x : Str} {p pos : Pos} {e : Expr} {es : List Expr} {t : TA} {id T : String} {r : List V → Hp → VK → Prop}
def tCB (r : List V → Hp → VK → Prop) (t : TA) : TE := fun σ H Q => t σ H fun vs H1 => r vs H1 Q
/-- f(e, ..), f a built-in function -/
theorem pe_callB (hc : CallR X (.builtin id) r) (hg : Gl X x) (hm : X.mg x = none) (hv : bootBuiltins x = some (.builtin id)) (ha : PA X (e :: es) t) (hn : x ≠ "__name__" := by decide) (hdb : (x == ("__debug__" : Str)) = false := by decide)
    (he : starEach (e :: es) X.env = (false, eval e X.env) :: starEach es X.env := by rfl) (hpl : (backTo pos (starEach es X.env)).any (·.1) = false := by rfl) : PE X (.Call (.Name x p) (e :: es) [] pos) (tCB r t) := by
  intro pins s σ H Q I h
  refine wpAny_Call_Name_kw (ld_blt I hg hm hv ?_ hn hdb)
  exact PyProof.Rows.callWith_builtin1 (thn (ha pos pins s σ H _ I h) fun us s1 ⟨vs, H1, I1, r1, q1⟩ => hc pins s1 σ H1 vs us Q I1 r1 q1) he hpl
/-- T(e, ..), T a built-in type -/
theorem pe_callTy (hc : CallR X (.type T) r) (hg : Gl X x) (hm : X.mg x = none) (hv : bootBuiltins x = some (.type T)) (ha : PA X (e :: es) t) (hn : x ≠ "__name__" := by decide) (hdb : (x == ("__debug__" : Str)) = false := by decide)
    (he : starEach (e :: es) X.env = (false, eval e X.env) :: starEach es X.env := by rfl) (hpl : (backTo pos (starEach es X.env)).any (·.1) = false := by rfl) : PE X (.Call (.Name x p) (e :: es) [] pos) (tCB r t) := by
  intro pins s σ H Q I h
  refine wpAny_Call_Name_kw (ld_blt I hg hm hv ?_ hn hdb)
  exact PyProof.Rows.callWith_type1 (thn (ha pos pins s σ H _ I h) fun us s1 ⟨vs, H1, I1, r1, q1⟩ => hc pins s1 σ H1 vs us Q I1 r1 q1) he hpl
end
end L2
namespace HT
open PySem PyProof.Rows
section
open PySem.SeqAt
open PySem.AutoSeq1 (wpAny_loadPart')
open PySem.MeetsSeq PySem.MeetsSeq2 PySem.MeetsSeq3
end
section
variable {prog : Program} {w : World} {A : Around} {E : Value → Shared → Prop} {s : Shared}
/-! ### t[a:b], not the whole -/
/-- a slice's bound as a place among n (d where it is left out) -/
def sIx (n d : Nat) : Option Int → Nat
  | none => d
  | some v => if v < 0 then (v + (n : Int)).toNat else min v.toNat n
end
end HT
namespace L2
open PySem PySem.Spec PyProof.Rows
/-! ### the parts of a slice -/
abbrev TO := St → Hp → (Option Int → Hp → Prop) → Prop
/-- a slice's part (left out, or an int) -/
def PO (X : Cx) (e : Option Expr) (t : TO) : Prop :=
  ∀ (pins : List (Addr × Obj)) (s : Shared) (σ : St) (H : Hp) (Q : Option Int → Hp → Prop), Inv X pins σ H s → t σ H Q →
    wpAny (model X.prog X.w) X.A (evalPart e X.env) (fun u s' => ∃ o H', Inv X pins σ H' s' ∧ IsPart u o ∧ Q o H') X.xe s
def tNoPart : TO := fun _ H Q => Q none H
def tPart (t : TE) : TO := fun σ H Q => t σ H fun x H1 => ∃ i, x = .int i ∧ Q (some i) H1
theorem intsAre_of {ns : List Int} : ∀ {us : List Value}, Vals (ns.map V.int) us → IntsAre us ns := by
  induction ns with
  | nil => intro us r; rw [List.map_nil] at r; cases r; exact .nil
  | cons n ns ih =>
    intro us r
    rw [List.map_cons] at r
    cases r with
    | cons r1 r2 =>
      obtain ⟨t, e⟩ := r1
      subst e
      exact .cons n t (ih r2)
section
variable {X : Cx} {e : Expr} {te : TE} {lo hi : Option Expr} {tl th : TO} {pos p2 : Pos}
theorem po_some (h : PE X e te) : PO X (some e) (tPart te) := by
  intro pins s σ H Q I hw
  rw [evalPart_some]
  refine thn (h pins s σ H _ I hw) fun u s1 ⟨x, H1, I1, r1, q1⟩ => ?_
  obtain ⟨i, rfl, q⟩ := q1
  obtain ⟨t, rfl⟩ := r1
  exact ⟨some i, H1, I1, .int i t, q⟩
/-- what a slice of a value is, by values: the slice object stands at sl -/
def SlR (X : Cx) (r : V → Option Int → Option Int → Hp → VK → Prop) : Prop :=
  ∀ (pins : List (Addr × Obj)) (s : Shared) (σ : St) (H : Hp) (x : V) (v vl vu : Value) (lo hi : Option Int) (sl : Addr) (Q : VK), Inv X pins σ H s → RelV x v → s.heap.IsSliceOf sl vl vu .none → IsPart vl lo → IsPart vu hi → r x lo hi H Q →
    ∃ T id, typeLookup (.type T) "__getitem__" = pure (some (.builtin id)) ∧ s.TypeIs v T ∧ wpAny (model X.prog X.w) X.A (getItem v (.ref sl)) (EP X pins σ Q) X.xe s
theorem SlR.or {r r' : V → Option Int → Option Int → Hp → VK → Prop} (h : SlR X r) (h' : SlR X r') : SlR X (fun x lo hi H Q => r x lo hi H Q ∨ r' x lo hi H Q) := by
  intro pins s σ H x v vl vu lo hi sl Q I rx hs pl pu q
  rcases q with q | q
  · exact h pins s σ H x v vl vu lo hi sl Q I rx hs pl pu q
  · exact h' pins s σ H x v vl vu lo hi sl Q I rx hs pl pu q
def tSl (r : V → Option Int → Option Int → Hp → VK → Prop) (te : TE) (tl th : TO) : TE := fun σ H Q => te σ H fun x H1 => tl σ H1 fun l H2 => th σ H2 fun u H3 => r x l u H3 Q
/-- a[lo:hi], any a -/
theorem pe_slice {r : V → Option Int → Option Int → Hp → VK → Prop} (hr : SlR X r) (he : PE X e te) (hl : PO X lo tl) (hu : PO X hi th) : PE X (.Subscript e (.Slice lo hi none p2) pos) (tSl r te tl th) := by
  intro pins s σ H Q I h
  refine Subscript_ (thn (he pins s σ H _ I h) fun v s1 ⟨x, H1, I1, r1, q1⟩ => ?_)
  refine wpAny_Slice (thn (hl pins s1 σ H1 _ I1 q1) fun vl s2 ⟨l, H2, I2, pl, q2⟩ => thn (hu pins s2 σ H2 _ I2 q2) fun vu s3 ⟨u, H3, I3, pu, q3⟩ => ?_)
  rw [evalPart_none]
  refine wpAny_pure ?_
  have I4 : Inv X pins σ H3 { s3 with heap := s3.heap.push { cls := .type "slice", data := .fields #[vl, vu, .none] } } := I3.kept (t' := s3.toks) fun b ob q => Heap.get?_push_of_some _ q
  obtain ⟨T, id, hT, ht, hg⟩ := hr pins { s3 with heap := s3.heap.push { cls := .type "slice", data := .fields #[vl, vu, .none] } } σ H3 x v vl vu l u s3.heap.objs.size Q I4 r1 (Heap.IsSliceOf.new ..) pl pu q3
  show wpAny (model X.prog X.w) X.A (subscriptTail e (.Slice lo hi none p2) v (.ref s3.heap.objs.size)) (EP X pins σ Q) X.xe { s3 with heap := s3.heap.push { cls := .type "slice", data := .fields #[vl, vu, .none] } }
  exact tail_any (ops := [.ref s3.heap.objs.size, v]) ht hT hg (by with_unfolding_all rfl)
/-- the items of xs[lo:hi] -/
def cutV (xs : List V) (lo hi : Option Int) : List V := (xs.drop (HT.sIx xs.length 0 lo)).take (HT.sIx xs.length xs.length hi - HT.sIx xs.length 0 lo)
theorem cutV_length (xs : List V) (lo hi : Option Int) : (cutV xs lo hi).length ≤ xs.length := by
  unfold cutV
  rw [List.length_take, List.length_drop]
  omega
end
end L2
namespace L2
open PySem PySem.Spec PyProof.Rows
/-! ### places -/
/-- the place that an index of any sign means -/
def ixN (n : Nat) (i : Int) : Option Nat := if 0 ≤ i then (if i < n then some i.toNat else none) else if -(n : Int) ≤ i then some (i + n).toNat else none
def atI {α : Type} (xs : List α) (i : Int) : Option α := (ixN xs.length i).bind fun j => xs[j]?
theorem ixN_seq {n : Nat} {i : Int} {j : Nat} (h : ixN n i = some j) : seqIndex? i n = some j ∧ j < n ∧ -(n : Int) ≤ i ∧ i < n := by
  unfold ixN at h
  by_cases h0 : 0 ≤ i
  · rw [if_pos h0] at h
    by_cases h1 : i < n
    · rw [if_pos h1] at h
      have e : i.toNat = j := Option.some.inj h
      exact ⟨by rw [seqIndex_of h0 h1, e], by omega, by omega, h1⟩
    · rw [if_neg h1] at h; cases h
  · rw [if_neg h0] at h
    by_cases h1 : -(n : Int) ≤ i
    · rw [if_pos h1] at h
      have e : (i + n).toNat = j := Option.some.inj h
      exact ⟨by rw [seqIndex_neg (by omega) h1, e], by omega, h1, by omega⟩
    · rw [if_neg h1] at h; cases h
theorem atI_get {α : Type} {xs : List α} {i : Int} {v : α} (h : atI xs i = some v) : ∃ j, seqIndex? i xs.length = some j ∧ xs[j]? = some v ∧ j < xs.length ∧ -(xs.length : Int) ≤ i ∧ i < xs.length := by
  unfold atI at h
  cases e : ixN xs.length i with
  | none => rw [e] at h; cases h
  | some j =>
    rw [e] at h
    obtain ⟨h1, h2, h3, h4⟩ := ixN_seq e
    exact ⟨j, h1, h, h2, h3, h4⟩
theorem atI_nat {α : Type} {xs : List α} {j : Nat} {v : α} (h : xs[j]? = some v) : atI xs (j : Int) = some v := by
  have hj : j < xs.length := (List.getElem?_eq_some_iff.mp h).1
  have e : ixN xs.length (j : Int) = some j := by
    unfold ixN
    rw [if_pos (by omega), if_pos (by omega)]; simp
  unfold atI; rw [e]; exact h
/-! ### what may be subscripted -/
/-- what stands as an index of a plain subscript -/
def PlainIx (b : Expr) : Prop := ∀ o i, subscripted b false o i = operate [o, i] (getItem o i)
/-- a subscript by values -/
def IxR (X : Cx) (r : R2) : Prop :=
  ∀ (value slice : Expr) (pins : List (Addr × Obj)) (s : Shared) (σ : St) (H : Hp) (x y : V) (v u : Value) (Q : VK), Inv X pins σ H s → RelV x v → RelV y u → r x y H Q →
    subscripted slice false v u = operate [v, u] (getItem v u) → wpAny (model X.prog X.w) X.A (subscriptTail value slice v u) (EP X pins σ Q) X.xe s
/-- a call of a builtin's method by values: the receiver, the arguments -/
def MtR (X : Cx) (id : String) (r : V → List V → Hp → VK → Prop) : Prop :=
  ∀ (pins : List (Addr × Obj)) (s : Shared) (σ : St) (H : Hp) (x : V) (xs : List V) (v : Value) (us : List Value) (Q : VK), Inv X pins σ H s → RelV x v → Vals xs us → r x xs H Q →
    wpAny (model X.prog X.w) X.A (call (.builtin id) (v :: us)) (EP X pins σ Q) X.xe s
section
variable {X : Cx} {a b : Expr} {ta tb : TE} {pos : Pos}
theorem IxR.or {r r' : R2} (h : IxR X r) (h' : IxR X r') : IxR X (fun x y H Q => r x y H Q ∨ r' x y H Q) := by
  intro value slice pins s σ H x y v u Q I rx ry q hs
  rcases q with q | q
  · exact h value slice pins s σ H x y v u Q I rx ry q hs
  · exact h' value slice pins s σ H x y v u Q I rx ry q hs
theorem MtR.or {id : String} {r r' : V → List V → Hp → VK → Prop} (h : MtR X id r) (h' : MtR X id r') : MtR X id (fun x xs H Q => r x xs H Q ∨ r' x xs H Q) := by
  intro pins s σ H x xs v us Q I rx rs q
  rcases q with q | q
  · exact h pins s σ H x xs v us Q I rx rs q
  · exact h' pins s σ H x xs v us Q I rx rs q
/-- a[b] -/
theorem pe_ix {r : R2} (hr : IxR X r) (ha : PE X a ta) (hb : PE X b tb) (hs : PlainIx b) : PE X (.Subscript a b pos) (tOp r ta tb) := by
  intro pins s σ H Q I h
  exact Subscript_ (binT ha hb I h fun v u s2 x y H2 I2 rx ry q => hr a b pins s2 σ H2 x y v u Q I2 rx ry q (hs _ _))
def rIxL (K : PySem.W.Frag) : R2 := fun x y H Q => ∃ p xs i v, x = .ref p ∧ y = .int i ∧ SqL K H p xs ∧ atI xs i = some v ∧ Q v H
def rIxT (K : PySem.W.Frag) : R2 := fun x y H Q => ∃ p xs i v, x = .ref p ∧ y = .int i ∧ SqT K H p xs ∧ atI xs i = some v ∧ Q v H
def rIxS : R2 := fun x y H Q => ∃ z i c, x = .str z ∧ y = .int i ∧ z.length ≤ sizeLine ∧ atI z.cps.toList i = some c ∧ Q (.str ⟨#[c]⟩) H
theorem ix_list : IxR X (rIxL X.K) := by
  intro value slice pins s σ H x y v u Q I rx ry h hs
  obtain ⟨p, xs, i, z, rfl, rfl, hq, he, q⟩ := h
  cases rx
  obtain ⟨t, rfl⟩ := ry
  obtain ⟨its, r, pl, hz⟩ := I.list hq
  obtain ⟨j, h1, h2, h3, h4, h5⟩ := atI_get he
  obtain ⟨w, ew, rw'⟩ := r.get h2
  have hl := r.length
  have hn := line63
  have fin : EP X pins σ Q w s := ⟨z, H, I, rw', q⟩
  by_cases h0 : 0 ≤ i
  · have hj : i.toNat = j := by
      rw [seqIndex_of h0 h5] at h1
      exact Option.some.inj h1
    exact item_listR pl.isList h0 (by omega) (by rw [hj]; simpa using ew) fin hs
  · have hj : (i + (its.toArray.size : Int)).toNat = j := by
      rw [seqIndex_neg (by omega) h4] at h1
      rw [List.size_toArray, ← hl]
      exact Option.some.inj h1
    exact subscriptTail_builtinR (x := w) pl.isList.typeIs slot_list_getitem.lookup
      (wpAny_getItem_list_neg (Q := fun r s' => r = w ∧ EP X pins σ Q r s') pl.isList (by omega) (by rw [List.size_toArray] <;> omega) (by omega) (by rw [hj]; simpa using ew) ⟨rfl, fin⟩) hs
theorem Inv.lst {pins : List (Addr × Obj)} {σ : St} {H : Hp} {s : Shared} {p : Addr} {xs : List V} (I : Inv X pins σ H s) (h : H p = some (.lst xs)) :
    ∃ (its : List Value) (n : Nat), Vals xs its ∧ s.heap.get? p = some { cls := .type "list", data := .seq its.toArray n } ∧ xs.length ≤ sizeLine := by
  obtain ⟨z, its, n, r, e⟩ := I.hok p _ h
  exact ⟨its, n, r, e, z⟩
def rSetL : V → V → V → Hp → (Hp → Prop) → Prop := fun o i v H Q => ∃ p xs k j, o = .ref p ∧ i = .int k ∧ H p = some (.lst xs) ∧ ixN xs.length k = some j ∧ Q (upd H p (.lst (xs.set j v)))
/-! ### slices -/
theorem slice_bounds (lo hi : Option Int) (n : Nat) : (sliceBounds lo hi none n).1 = ((HT.sIx n 0 lo : Nat) : Int) ∧ (sliceBounds lo hi none n).2.1 = ((HT.sIx n n hi : Nat) : Int) ∧ (sliceBounds lo hi none n).2.2 = 1 := by
  refine ⟨?_, ?_, rfl⟩
  · cases lo with
    | none => simp [sliceBounds, HT.sIx]
    | some i =>
      simp only [sliceBounds, HT.sIx, Option.getD_none, show (1 : Int) > 0 by decide, if_true]
      by_cases h : i < 0
      · simp only [h, if_true] <;> omega
      · simp only [h, if_false] <;> omega
  · cases hi with
    | none => simp [sliceBounds, HT.sIx]
    | some i =>
      simp only [sliceBounds, HT.sIx, Option.getD_none, show (1 : Int) > 0 by decide, if_true]
      by_cases h : i < 0
      · simp only [h, if_true] <;> omega
      · simp only [h, if_false] <;> omega
theorem slicePick_cut (its : List Value) (lo hi : Option Int) : slicePick its.toArray lo hi none = ((its.drop (HT.sIx its.length 0 lo)).take (HT.sIx its.length its.length hi - HT.sIx its.length 0 lo)).toArray := by
  obtain ⟨h1, h2, h3⟩ := slice_bounds lo hi its.toArray.size
  unfold slicePick
  rw [h1, h2, h3]
  simp only [sliceRange_one, pick_run, List.size_toArray] <;> rfl
/-- xs[lo:hi] of a list: a new list -/
def rSlL (K : PySem.W.Frag) : V → Option Int → Option Int → Hp → VK → Prop := fun x lo hi H Q => ∃ a xs, x = .ref a ∧ SqL K H a xs ∧ ∀ p, H p = none → Q (.ref p) (upd H p (.lst (cutV xs lo hi)))
theorem sl_list : SlR X (rSlL X.K) := by
  intro pins s σ H x v vl vu lo hi sl Q I rx hs pl pu h
  obtain ⟨a, xs, rfl, hx, q⟩ := h
  cases rx
  obtain ⟨its, r, ht, hz⟩ := I.list hx
  have hlen := r.length
  refine ⟨"list", _, slot_list_getitem.lookup, ht.isList.typeIs, ?_⟩
  refine wpAny_getItem_list_slice ht.isList hs pl pu .none (by simp) ?_ (by rw [List.size_toArray] <;> omega)
  rw [slicePick_cut, ← hlen]
  refine ⟨.ref s.heap.objs.size, _, I.laid (t' := s.toks) (o := .lst (cutV xs lo hi)) (fun b ob q => Heap.get?_push_of_some _ q) (Nat.le_refl _) ?_, rfl, q _ (I.hok.fresh (Nat.le_refl _))⟩
  exact ⟨Nat.le_trans (cutV_length xs lo hi) hz, _, 0, (r.drop (HT.sIx xs.length 0 lo)).take (HT.sIx xs.length xs.length hi - HT.sIx xs.length 0 lo), Heap.get?_push_size _ rfl⟩
/-! ### in, not in: flat items -/
def flatV : V → Bool
  | .non => true
  | .bl _ => true
  | .int _ => true
  | .str _ => true
  | _ => false
/-- == of flat values -/
def eqV : V → V → Bool
  | .non, .non => true
  | .bl a, .bl b => a == b
  | .bl a, .int b => (if a then 1 else 0) == b
  | .int a, .bl b => a == (if b then 1 else 0)
  | .int a, .int b => a == b
  | .str a, .str b => a == b
  | _, _ => false
theorem eqAt_V {A : Around} {s : Shared} {y x : V} {u v : Value} (ry : RelV y u) (rx : RelV x v) (fy : flatV y = true) (fx : flatV x = true) : SeqAt.EqAt A s u v (eqV y x) := by
  cases y with
  | non =>
    cases ry
    cases x with
    | non => cases rx; exact SeqAt.EqAt.same _
    | bl b => cases rx; exact SeqAt.EqAt.none_bool b
    | int b => obtain ⟨t, rfl⟩ := rx; exact SeqAt.EqAt.none_int b t
    | str b => obtain ⟨t, rfl⟩ := rx; exact SeqAt.EqAt.none_str b t
    | _ => exact absurd (show false = true from fx) Bool.false_ne_true
  | bl a =>
    cases ry
    cases x with
    | non => cases rx; exact SeqAt.EqAt.bool_none a
    | bl b => cases rx; exact SeqAt.EqAt.bool_bool a b
    | int b => obtain ⟨t, rfl⟩ := rx; exact SeqAt.EqAt.bool_int a b t
    | str b => obtain ⟨t, rfl⟩ := rx; exact SeqAt.EqAt.bool_str a b t
    | _ => exact absurd (show false = true from fx) Bool.false_ne_true
  | int a =>
    obtain ⟨t', rfl⟩ := ry
    cases x with
    | non => cases rx; exact SeqAt.EqAt.int_none a t'
    | bl b => cases rx; exact SeqAt.EqAt.int_bool a t' b
    | int b => obtain ⟨t, rfl⟩ := rx; exact SeqAt.EqAt.int_int a t' b t
    | str b => obtain ⟨t, rfl⟩ := rx; exact SeqAt.EqAt.int_str a t' b t
    | _ => exact absurd (show false = true from fx) Bool.false_ne_true
  | str a =>
    obtain ⟨t', rfl⟩ := ry
    cases x with
    | non => cases rx; exact SeqAt.EqAt.str_none a t'
    | bl b => cases rx; exact SeqAt.EqAt.str_bool a t' b
    | int b => obtain ⟨t, rfl⟩ := rx; exact SeqAt.EqAt.str_int a t' b t
    | str b => obtain ⟨t, rfl⟩ := rx; exact SeqAt.EqAt.str_str a t' b t
    | _ => exact absurd (show false = true from fx) Bool.false_ne_true
  | _ => exact absurd (show false = true from fy) Bool.false_ne_true
/-- the items' answers, read off the values (a value's own answer does not lean on its token) -/
def eqU (x : V) (u : Value) : Bool := match u with
  | .none => eqV .non x
  | .bool b => eqV (.bl b) x
  | .int i _ => eqV (.int i) x
  | .str z _ => eqV (.str z) x
  | _ => false
theorem eqU_of {x y : V} {u : Value} (r : RelV y u) (f : flatV y = true) : eqU x u = eqV y x := by
  cases y with
  | non => cases r; rfl
  | bl b => cases r; rfl
  | int i => obtain ⟨t, rfl⟩ := r; rfl
  | str z => obtain ⟨t, rfl⟩ := r; rfl
  | _ => exact absurd (show false = true from f) Bool.false_ne_true
theorem any_eqU {x : V} : ∀ {xs : List V} {us : List Value}, Vals xs us → xs.all flatV = true → us.any (eqU x) = xs.any fun y => eqV y x
  | _, _, .nil, _ => rfl
  | y :: xs, u :: us, .cons r t, f => by
    rw [List.all_cons, Bool.and_eq_true] at f
    rw [List.any_cons, List.any_cons, eqU_of r f.1, any_eqU t f.2]
theorem mem_eqAt {A : Around} {s : Shared} {x : V} {v : Value} (rx : RelV x v) (fx : flatV x = true) : ∀ {xs : List V} {us : List Value}, Vals xs us → xs.all flatV = true → ∀ u ∈ us, SeqAt.EqAt A s u v (eqU x u)
  | _, _, .nil, _ => fun u hu => by cases hu
  | y :: xs, u :: us, .cons r t, f => fun u' hu => by
    rw [List.all_cons, Bool.and_eq_true] at f
    rcases List.mem_cons.mp hu with rfl | hu
    · rw [eqU_of r f.1]; exact eqAt_V r rx f.1 fx
    · exact mem_eqAt rx fx t f.2 u' hu
def inV (x : V) (xs : List V) : Bool := xs.any fun y => eqV y x
/-- x in a list or tuple of flat items -/
def rIn (K : PySem.W.Frag) (neg : Bool) : R2 := fun x y H Q => ∃ p xs, y = .ref p ∧ (SqL K H p xs ∨ SqT K H p xs) ∧ flatV x = true ∧ xs.all flatV = true ∧ Q (.bl (if neg then !inV x xs else inV x xs)) H
theorem op_in_seq : OpR X (compareOp .In) (rIn X.K false) := by
  intro pins s σ H x y v u Q I rx ry h
  obtain ⟨p, xs, rfl, hq, fx, fs, q⟩ := h
  cases ry
  rcases hq with hq | hq
  · obtain ⟨its, r, pl, hz⟩ := I.list hq
    refine SeqAt.in_listAt (eqU x) pl.isList (fun w hw => mem_eqAt rx fx r fs w (by simpa using hw)) ⟨.bl _, H, I, rfl, ?_⟩
    rw [show its.toArray.any (eqU x) = its.any (eqU x) by simp, any_eqU r fs]
    exact q
  · obtain ⟨its, r, pl, hz⟩ := I.tuple hq
    refine SeqAt.in_tupleAt (eqU x) pl (fun w hw => mem_eqAt rx fx r fs w (by simpa using hw)) ⟨.bl _, H, I, rfl, ?_⟩
    rw [show its.toArray.any (eqU x) = its.any (eqU x) by simp, any_eqU r fs]
    exact q
/-! ### len, list(x), tuple(x) of any list or tuple that is read -/
theorem call_len_seq : CallR X (.builtin "len") (fun xs H Q => ∃ p ys, xs = [.ref p] ∧ (SqL X.K H p ys ∨ SqT X.K H p ys) ∧ Q (.int ys.length) H) := by
  intro pins s σ H xs us Q I r h
  obtain ⟨p, ys, rfl, hq, q⟩ := h
  obtain ⟨u, rfl, rx⟩ := vals1 r
  cases rx
  have hn := line63
  rcases hq with hq | hq
  · obtain ⟨its, r', pl, hz⟩ := I.list hq
    have hlen := r'.length
    exact Calls.call_len_list pl.isList (by simp only [List.size_toArray] <;> omega) ⟨.int ys.length, H, I.tok _, ⟨s.toks + 1, by rw [List.size_toArray, hlen]⟩, q⟩
  · obtain ⟨its, r', pl, hz⟩ := I.tuple hq
    have hlen := r'.length
    exact len_tuple pl (by simp only [List.size_toArray] <;> omega) ⟨.int ys.length, H, I.tok _, ⟨s.toks + 1, by rw [List.size_toArray, hlen]⟩, q⟩
theorem call_len_str : CallR X (.builtin "len") (fun xs H Q => ∃ z, xs = [.str z] ∧ z.length ≤ sizeLine ∧ Q (.int z.length) H) := by
  intro pins s σ H xs us Q I r h
  obtain ⟨z, rfl, hz, q⟩ := h
  obtain ⟨u, rfl, t, rfl⟩ := vals1 r
  have hn := line63
  exact len_str (by omega) ⟨.int z.length, H, I.tok _, ⟨_, rfl⟩, q⟩
theorem CallR.or {f : Value} {r r' : List V → Hp → VK → Prop} (h : CallR X f r) (h' : CallR X f r') : CallR X f (fun xs H Q => r xs H Q ∨ r' xs H Q) := by
  intro pins s σ H xs us Q I rs q
  rcases q with q | q
  · exact h pins s σ H xs us Q I rs q
  · exact h' pins s σ H xs us Q I rs q
/-! ### the call of a builtin's method: o.m(..) -/
/-- the value is of that builtin type -/
def tyV (K : PySem.W.Frag) (T : String) (x : V) (H : Hp) : Prop := match x with
  | .str _ => T = "str"
  | .int _ => T = "int"
  | .ref p => (T = "list" ∧ ∃ xs, SqL K H p xs) ∨ (T = "tuple" ∧ ∃ o, K.lookup p = some o ∧ o.cls = .type "tuple" ∧ o.dict = none) ∨
      (T = "dict" ∧ ((∃ kvs, H p = some (.dK kvs)) ∨ ∃ kvs, H p = some (.dT kvs))) ∨ (T = "set" ∧ ∃ S n, H p = some (.set S n))
  | _ => False
def tBM (K : PySem.W.Frag) (T : String) (r : V → List V → Hp → VK → Prop) (to : TE) (t : TA) : TE := fun σ H Q => to σ H fun x H1 => tyV K T x H1 ∧ t σ H1 fun xs H2 => r x xs H2 Q
variable {o e : Expr} {es : List Expr} {to : TE} {t : TA} {name : Str} {apos cpos : Pos} {T id : String} {r : V → List V → Hp → VK → Prop}
/- xs.append(e), list.index on a module's tuple .. are MtR facts of 06m -/
end
end L2
namespace L2
open PySem PySem.Spec PyProof.Rows
/-! ### lists of values -/
theorem Vals.one : ∀ {x : V} {us : List Value}, Vals [x] us → ∃ u, us = [u] ∧ RelV x u
  | _, _, .cons r .nil => ⟨_, rfl, r⟩
theorem Vals.two : ∀ {x y : V} {us : List Value}, Vals [x, y] us → ∃ u v, us = [u, v] ∧ RelV x u ∧ RelV y v
  | _, _, _, .cons r (.cons q .nil) => ⟨_, _, rfl, r, q⟩
theorem Vals.zero : ∀ {us : List Value}, Vals [] us → us = []
  | _, .nil => rfl
theorem Vals.reverse {xs : List V} {us : List Value} (h : Vals xs us) : Vals xs.reverse us.reverse := by
  induction h with
  | nil => exact .nil
  | cons r t ih => rw [List.reverse_cons, List.reverse_cons]; exact Vals.append ih (.cons r .nil)
section
variable {X : Cx} {pins : List (Addr × Obj)} {σ : St} {H : Hp} {s : Shared} {l b : Addr} {xs ys zs : List V}
theorem Inv.lnew {its : List Value} {t' : Nat} (I : Inv X pins σ H s) (hv : Vals ys its) (hz : ys.length ≤ sizeLine) :
    Inv X pins σ (upd H s.heap.objs.size (.lst ys)) { s with heap := s.heap.push { cls := .type "list", data := .seq its.toArray }, toks := t' } :=
  I.laid (fun _ _ q => Heap.get?_push_of_some _ q) (Nat.le_refl _) ⟨hz, its, 0, hv, Heap.get?_push_size _ rfl⟩
theorem Inv.fresh (I : Inv X pins σ H s) : H s.heap.objs.size = none := I.hok.fresh (Nat.le_refl _)
theorem Inv.lstM (I : Inv X pins σ H s) (hH : H l = some (.lst xs)) : xs.length ≤ sizeLine ∧ ∃ (its : List Value) (n : Nat), Vals xs its ∧ xs.length = its.length ∧ s.heap.get? l = some { cls := .type "list", data := .seq its.toArray n } := by
  obtain ⟨z, its, n, r, e⟩ := I.hok l _ hH
  exact ⟨z, its, n, r, r.length, e⟩
end
section
variable {X : Cx}
/-! ### methods -/
def rAppend : V → List V → Hp → VK → Prop := fun x vs H Q => ∃ l xs y, x = .ref l ∧ vs = [y] ∧ H l = some (.lst xs) ∧ xs.length < sizeLine ∧ Q .non (upd H l (.lst (xs ++ [y])))
/-! ### list + list, list += list, list * int -/
def rCat : R2 := fun x y H Q => ∃ l b xs zs, x = .ref l ∧ y = .ref b ∧ H l = some (.lst xs) ∧ H b = some (.lst zs) ∧ xs.length + zs.length ≤ sizeLine ∧ ∀ p, H p = none → Q (.ref p) (upd H p (.lst (xs ++ zs)))
theorem op_cat : OpR X (binaryOp .Add) rCat := by
  intro pins s σ H x y v u Q I rx ry h
  obtain ⟨l, b, xs, zs, rfl, rfl, hH, hB, hz, q⟩ := h
  cases rx
  cases ry
  obtain ⟨z, its, n, r, hl, e⟩ := I.lstM hH
  obtain ⟨z2, its2, n2, r2, hl2, e2⟩ := I.lstM hB
  refine PySem.P.add_list e e2 ?_ (by rw [List.size_toArray, List.size_toArray]; omega)
  have ea : its.toArray ++ its2.toArray = (its ++ its2).toArray := by simp
  rw [ea]
  exact ⟨.ref _, _, I.lnew (t' := s.toks) (r.append r2) (by rw [List.length_append]; omega), rfl, q _ I.fresh⟩
end
/-! ### xs[a:b] = ys -/
section
variable {prog : Program} {w : World} {A : Around} {E : Value → Shared → Prop} {s : Shared}
set_option maxRecDepth 100000 in
end
section
variable {X : Cx}
end
end L2
namespace L2
open PySem PySem.Spec PyProof.Rows
/-! ### lists of pairs as tables -/
section
variable {κ : Type} [DecidableEq κ]
def valV (kvs : List (κ × V)) (k : κ) : Option V := (kvs.find? fun kv => decide (kv.1 = k)).map (·.2)
/-- in its place, or at the end -/
def putK (kvs : List (κ × V)) (k : κ) (v : V) : List (κ × V) :=
  if (kvs.any fun kv => decide (kv.1 = k)) = true then kvs.map (fun kv => if kv.1 = k then (kv.1, v) else kv) else kvs ++ [(k, v)]
def dropK (kvs : List (κ × V)) (k : κ) : List (κ × V) := kvs.filter fun kv => decide (kv.1 ≠ k)
theorem valV_pos {p : κ × V} {r : List (κ × V)} {k : κ} (e : p.1 = k) : valV (p :: r) k = some p.2 := by simp [valV, List.find?_cons, e]
theorem valV_neg {p : κ × V} {r : List (κ × V)} {k : κ} (e : ¬ p.1 = k) : valV (p :: r) k = valV r k := by simp [valV, List.find?_cons, e]
theorem valV_any (k : κ) : ∀ kvs : List (κ × V), (kvs.any fun kv => decide (kv.1 = k)) = (valV kvs k).isSome
  | [] => rfl
  | p :: r => by
    rw [List.any_cons]
    by_cases e : p.1 = k
    · simp only [valV_pos e, decide_eq_true e, Bool.true_or, Option.isSome_some]
    · rw [valV_neg e, decide_eq_false e, Bool.false_or]; exact valV_any k r
theorem RelO.isSome_eq {o : Option V} {u : Option Value} (r : RelO o u) : o.isSome = u.isSome := by
  cases o with
  | none => cases u with
    | none => rfl
    | some _ => exact (show False from r).elim
  | some _ => cases u with
    | none => exact (show False from r).elim
    | some _ => rfl
theorem RelO.getD {o : Option V} {u : Option Value} {d : V} {d' : Value} (r : RelO o u) (rd : RelV d d') : RelV (o.getD d) (u.getD d') := by
  cases o with
  | none => cases u with
    | none => exact rd
    | some _ => exact (show False from r).elim
  | some _ => cases u with
    | none => exact (show False from r).elim
    | some _ => exact r
/-- raw tables of the same keys -/
theorem KV.val {kvs : List (κ × V)} {vs : List (κ × Value)} (r : KV kvs vs) (k : κ) : RelO (valV kvs k) (valueAt vs k) := by
  unfold KV at r
  induction r with
  | nil => exact True.intro
  | @cons p q ps qs h t ih =>
    obtain ⟨h1, h2⟩ := h
    by_cases e : p.1 = k
    · have e' : q.1 = k := h1.symm.trans e
      have b : valueAt (q :: qs) k = some q.2 := by simp [valueAt, List.find?_cons, e']
      rw [valV_pos e, b]; exact h2
    · have e' : ¬ q.1 = k := fun z => e (h1.trans z)
      have b : valueAt (q :: qs) k = valueAt qs k := by simp [valueAt, List.find?_cons, e']
      rw [valV_neg e, b]; exact ih
theorem KV.any {kvs : List (κ × V)} {vs : List (κ × Value)} (r : KV kvs vs) (k : κ) : (kvs.any fun kv => decide (kv.1 = k)) = vs.any fun kv => decide (kv.1 = k) := by
  unfold KV at r
  induction r with
  | nil => rfl
  | cons h t ih => rw [List.any_cons, List.any_cons, ih, h.1]
theorem KV.repl {kvs : List (κ × V)} {vs : List (κ × Value)} (r : KV kvs vs) (k : κ) {y : V} {u : Value} (ry : RelV y u) :
    KV (kvs.map fun kv => if kv.1 = k then (kv.1, y) else kv) (vs.map fun kv => if kv.1 = k then (kv.1, u) else kv) := by
  unfold KV at r ⊢
  induction r with
  | nil => exact .nil
  | @cons p q ps qs h t ih =>
    rw [List.map_cons, List.map_cons]
    refine .cons ?_ ih
    obtain ⟨h1, h2⟩ := h
    by_cases e : p.1 = k
    · rw [if_pos e, if_pos (h1.symm.trans e)]; exact ⟨h1, ry⟩
    · rw [if_neg e, if_neg (fun z => e (h1.trans z))]; exact ⟨h1, h2⟩
theorem KV.put {kvs : List (κ × V)} {vs : List (κ × Value)} (r : KV kvs vs) (k : κ) {y : V} {u : Value} (ry : RelV y u) : KV (putK kvs k y) (stored vs k u) := by
  unfold putK stored
  rw [r.any k]
  by_cases e : (vs.any fun kv => decide (kv.1 = k)) = true
  · rw [if_pos e, if_pos e]; exact r.repl k ry
  · rw [if_neg e, if_neg e]; exact Paired.snoc r ⟨rfl, ry⟩
theorem KV.drop {kvs : List (κ × V)} {vs : List (κ × Value)} (r : KV kvs vs) (k : κ) : KV (dropK kvs k) (without vs k) := by
  unfold KV at r ⊢
  unfold dropK without
  induction r with
  | nil => exact .nil
  | @cons p q ps qs h t ih =>
    obtain ⟨h1, h2⟩ := h
    rw [List.filter_cons, List.filter_cons]
    by_cases e : p.1 = k
    · have a : ¬ decide (p.1 ≠ k) = true := by simp [e]
      have b : ¬ decide (q.1 ≠ k) = true := by simp [h1.symm.trans e]
      rw [if_neg a, if_neg b]; exact ih
    · have e' : ¬ q.1 = k := fun z => e (h1.trans z)
      have a : decide (p.1 ≠ k) = true := by simp [e]
      have b : decide (q.1 ≠ k) = true := by simp [e']
      rw [if_pos a, if_pos b]; exact .cons ⟨h1, h2⟩ ih
theorem KV.keys {kvs : List (κ × V)} {vs : List (κ × Value)} (r : KV kvs vs) : kvs.map (·.1) = vs.map (·.1) := by
  unfold KV at r
  induction r with
  | nil => rfl
  | cons h t ih => rw [List.map_cons, List.map_cons, ih, h.1]
theorem KV.length {kvs : List (κ × V)} {vs : List (κ × Value)} (r : KV kvs vs) : kvs.length = vs.length := Paired.length r
end
/-! ### a tracked dict, its keys ints and texts or tuples of these -/
theorem kV_is {P : Program} {w : World} {k : Key} {u : Value} (r : RelV (kV k) u) : (mixKind P w).is k u = true := by
  cases k with
  | inl i => obtain ⟨t, e⟩ := (show ∃ t, u = Value.int i t from r); subst e; exact mixKind_int P w i t
  | inr x => obtain ⟨t, e⟩ := (show ∃ t, u = Value.str x t from r); subst e; exact mixKind_str P w x t
/-- raw entries of a dict with tuple keys -/
abbrev KT (H : Hp) : List (List Key × V) → List (List Key × Addr × Value) → Prop := Paired fun p q => p.1 = q.1 ∧ H q.2.1 = some (.tup (p.1.map kV)) ∧ RelV p.2 q.2.2
theorem KT.val {H : Hp} {kvs : List (List Key × V)} {xs : List (List Key × Addr × Value)} (r : KT H kvs xs) (k : List Key) : RelO (valV kvs k) ((atKey xs k).map (·.2)) := by
  induction r with
  | nil => exact True.intro
  | @cons p q ps qs h t ih =>
    obtain ⟨h1, _, h2⟩ := h
    by_cases e : p.1 = k
    · have e' : q.1 = k := h1.symm.trans e
      have b : atKey (q :: qs) k = some q.2 := by simp [atKey, List.find?_cons, e']
      rw [valV_pos e, b]; exact h2
    · have e' : ¬ q.1 = k := fun z => e (h1.trans z)
      have b : atKey (q :: qs) k = atKey qs k := by simp [atKey, List.find?_cons, e']
      rw [valV_neg e, b]; exact ih
theorem KT.repl {H : Hp} {kvs : List (List Key × V)} {xs : List (List Key × Addr × Value)} (r : KT H kvs xs) (k : List Key) {y : V} {u : Value} (ry : RelV y u) :
    KT H (kvs.map fun kv => if kv.1 = k then (kv.1, y) else kv) (xs.map (putAt k u)) := by
  induction r with
  | nil => exact .nil
  | @cons p q ps qs h t ih =>
    rw [List.map_cons, List.map_cons]
    refine .cons ?_ ih
    obtain ⟨h1, h2, h3⟩ := h
    unfold putAt
    by_cases e : p.1 = k
    · rw [if_pos e, if_pos (h1.symm.trans e)]; exact ⟨h1, h2, ry⟩
    · rw [if_neg e, if_neg (fun z => e (h1.trans z))]; exact ⟨h1, h2, h3⟩
theorem KT.put {H : Hp} {kvs : List (List Key × V)} {xs : List (List Key × Addr × Value)} (r : KT H kvs xs) (k : List Key) {b : Addr} {y : V} {u : Value} (hb : H b = some (.tup (k.map kV))) (ry : RelV y u) :
    KT H (putK kvs k y) (storedH xs k b u) := by
  have e : (kvs.any fun kv => decide (kv.1 = k)) = (atKey xs k).isSome := by
    rw [valV_any, (r.val k).isSome_eq, Option.isSome_map]
  unfold putK storedH
  rw [e]
  by_cases q : (atKey xs k).isSome = true
  · rw [if_pos q, if_pos q]; exact r.repl k ry
  · rw [if_neg q, if_neg q]; exact Paired.snoc r ⟨rfl, hb, ry⟩
theorem KT.keeps {H H' : Hp} {kvs : List (List Key × V)} {xs : List (List Key × Addr × Value)} (r : KT H kvs xs) (ht : ∀ b ys, H b = some (.tup ys) → H' b = some (.tup ys)) : KT H' kvs xs :=
  Paired.mapP r fun _ _ z => ⟨z.1, ht _ _ z.2.1, z.2.2⟩
section
variable {P : Program} {w : World} {H : Hp} {h : Heap} {a : Addr}
end
/-- what the dict at a holds at the key y -/
def DGet (H : Hp) (a : Addr) (y : V) (r : Option V) : Prop :=
  (∃ kvs k, Rd H a (.dK kvs) ∧ y = kV k ∧ r = valV kvs k) ∨ ∃ kvs k b, Rd H a (.dT kvs) ∧ y = .ref b ∧ H b = some (.tup (k.map kV)) ∧ r = valV kvs k
/-- the heap behind a[y] = v -/
def DPut (H : Hp) (a : Addr) (y v : V) (H' : Hp) : Prop :=
  (∃ kvs k, H a = some (.dK kvs) ∧ y = kV k ∧ kvs.length < sizeLine ∧ H' = upd H a (.dK (putK kvs k v))) ∨
  ∃ kvs k b, H a = some (.dT kvs) ∧ y = .ref b ∧ H b = some (.tup (k.map kV)) ∧ kvs.length < sizeLine ∧ H' = upd H a (.dT (putK kvs k v))
theorem DGet.k {H : Hp} {a : Addr} {kvs : List (Key × V)} {k : Key} (e : H a = some (.dK kvs)) : DGet H a (kV k) (valV kvs k) := .inl ⟨kvs, k, .inl e, rfl, rfl⟩
theorem DGet.t {H : Hp} {a b : Addr} {kvs : List (List Key × V)} {k : List Key} (e : H a = some (.dT kvs)) (eb : H b = some (.tup (k.map kV))) : DGet H a (.ref b) (valV kvs k) := .inr ⟨kvs, k, b, .inl e, rfl, eb, rfl⟩
theorem DPut.k {H : Hp} {a : Addr} {kvs : List (Key × V)} {k : Key} {v : V} (e : H a = some (.dK kvs)) (hl : kvs.length < sizeLine) : DPut H a (kV k) v (upd H a (.dK (putK kvs k v))) := .inl ⟨kvs, k, e, rfl, hl, rfl⟩
theorem DPut.t {H : Hp} {a b : Addr} {kvs : List (List Key × V)} {k : List Key} {v : V} (e : H a = some (.dT kvs)) (eb : H b = some (.tup (k.map kV))) (hl : kvs.length < sizeLine) :
    DPut H a (.ref b) v (upd H a (.dT (putK kvs k v))) := .inr ⟨kvs, k, b, e, rfl, eb, hl, rfl⟩
section
variable {X : Cx} {pins : List (Addr × Obj)} {σ : St} {H : Hp} {s : Shared} {a : Addr} {y v : V} {u r : Value} {o : Option V} {A : Around} {E : Value → Shared → Prop}
end
section
variable {X : Cx} {pins : List (Addr × Obj)} {σ : St} {H : Hp} {s : Shared} {a : Addr} {kvs : List (Key × V)} {k : Key} {u : Value} {A : Around} {E : Value → Shared → Prop}
end
/-! ### readings and rules -/
/-- the element of a subscription, not a slice -/
def NoSl (i : Expr) : Prop := ∀ ov iv, subscripted i false ov iv = operate [ov, iv] (getItem ov iv)
theorem subD_of {prog : Program} {w : World} {A : Around} {E : Value → Shared → Prop} {s : Shared} {env : Env} {value slice : Expr} {pos : Pos} {T id : String} {Q : Value → Shared → Prop}
    (hl : typeLookup (.type T) "__getitem__" = pure (some (.builtin id))) (hs : NoSl slice)
    (h : wpAny (model prog w) A (eval value env) (fun o s₁ => wpAny (model prog w) A (eval slice env) (fun i s₂ => s₂.TypeIs o T ∧ wpAny (model prog w) A (getItem o i) Q E s₂) E s₁) E s) :
    wpAny (model prog w) A (eval (.Subscript value slice pos) env) Q E s := by
  refine Subscript_ (wpAny_mono h (fun o s₁ h₁ => wpAny_mono h₁ (fun i s₂ h₂ => ?_) fun _ _ x => x) fun _ _ x => x)
  obtain ⟨hT, h₂⟩ := h₂
  unfold subscriptTail
  refine wpAny_bind ?_
  rw [getitemInPython_of_ne hT.not_modules]
  refine wpAny_bind (wpAny_specialOf hT hl ?_)
  have fin : wpAny (model prog w) A (subscripted slice false o i) (fun r s₃ => wpAny (model prog w) A (letTemporaryGo value o r >>= fun _ => pure r) Q E s₃) E s₂ := by
    rw [hs o i]
    exact wpAny_operating (wpAny_mono h₂ (fun r s₃ h₃ => wpAny_bind (wpAny_letTemporaryGo (wpAny_pure h₃))) fun _ _ x => x)
  first
    | exact wpAny_pure (wpAny_bind fin)
    | exact wpAny_bind (wpAny_pure (wpAny_bind fin))
    | exact wpAny_bind fin
section
variable {X : Cx} {o i e value : Expr} {pos pos' tpos : Pos} {td ty tv : TE}
end
section
variable {X : Cx} {pos : Pos}
end
/-! ### methods -/
/-- a method call o.m(e) of a built-in, with one argument: what must be seen of the text -/
structure M1 (X : Cx) (o : Expr) (m : Str) (apos : Pos) (e : Expr) (cpos : Pos) : Prop where
  base : attributeBase o m X.env (eval o X.env) = eval o X.env
  few : ((backTo cpos (starEach [e] X.env)).all (fun x => !x.1) && (backToKw cpos (keywordEach [] X.env)).all (fun x => x.1.isSome)
    && decide (([e] : List Expr).length + ([] : List Keyword).length + (if ([] : List Keyword).isEmpty then 0 else 1) < 30)) = true
  line : (apos.endLine == cpos.line) = true
  trees : backTo cpos (starEach [e] X.env) = [(false, eval e X.env)]
structure M2 (X : Cx) (o : Expr) (m : Str) (apos : Pos) (e f : Expr) (cpos : Pos) : Prop where
  base : attributeBase o m X.env (eval o X.env) = eval o X.env
  few : ((backTo cpos (starEach [e, f] X.env)).all (fun x => !x.1) && (backToKw cpos (keywordEach [] X.env)).all (fun x => x.1.isSome)
    && decide (([e, f] : List Expr).length + ([] : List Keyword).length + (if ([] : List Keyword).isEmpty then 0 else 1) < 30)) = true
  line : (apos.endLine == cpos.line) = true
  trees : backTo cpos (starEach [e, f] X.env) = [(false, eval e X.env), (false, eval f X.env)]
section
variable {X : Cx} {pins : List (Addr × Obj)} {σ : St} {H : Hp} {s : Shared} {a : Addr} {y d : V} {u r : Value} {o : Option V} {A : Around} {E : Value → Shared → Prop}
end
section
variable {X : Cx} {o e f : Expr} {apos cpos : Pos} {td ty tx : TE}
end
/-! ### dict(d): a copy -/
section
variable {X : Cx} {pins : List (Addr × Obj)} {σ : St} {H : Hp} {s : Shared} {a : Addr} {kvs : List (Key × V)} {A : Around} {E : Value → Shared → Prop}
end
section
variable {X : Cx} {pins : List (Addr × Obj)} {σ : St} {H : Hp} {s : Shared} {a : Addr} {y : V} {u : Value} {A : Around} {E : Value → Shared → Prop}
end
end L2
namespace Att
open PySem PySem.W PySem.Calls PyProof.Rows
/-! ### the script -/
theorem ints_of_wellAll {P : Params} {h : Heap} : ∀ (ns : List Int) (vs : List Value), WellAll P h vs (ns.map WData.int) → IntsAre vs ns := by
  intro ns
  induction ns with
  | nil =>
    intro vs w
    rw [List.map_nil] at w
    cases w
    exact .nil
  | cons n ns ih =>
    intro vs w
    rw [List.map_cons] at w
    cases w with
    | cons a b =>
      cases a
      exact .cons _ _ (ih _ b)
theorem script_of {l : OpenLaw} {n : Nat} (hn : l.most = some n) {P : Params} {h : Heap} {args : List WData} {vals : List Value}
    (hpre : l.row.toRowW.claim.pre args = true) (hwl : WellAll P h vals args) :
    ∃ a vs ns, vals = [Value.ref a] ∧ args = [WData.list (ns.map WData.int)] ∧ h.get? a = some { cls := .type "list", data := .seq vs.toArray } ∧ IntsAre vs ns ∧ ns.length ≤ n := by
  have hsh : WShape.hasAll [] args [.list .int] = true := (pre_splitW hpre).1
  have hc : l.pre.holds [] { args := args } = true := (pre_splitW hpre).2
  obtain ⟨d, r, rfl, h1, h2⟩ := hasAllW_cons hsh
  obtain rfl := hasAllW_nil h2
  obtain ⟨xs, rfl, h3⟩ := hasW_list h1
  obtain ⟨ns, rfl⟩ := items_int h3
  have hlen : ns.length ≤ n := by
    unfold OpenLaw.pre at hc
    have h4 : (WTm.not (.lt (.lit (.int (n : Int))) (.len (.arg 0)))).holds [] { args := [.list (ns.map .int)] } = true := by
      have h4 := (holds_andW hc).1
      rw [hn] at h4
      exact h4
    have h5 := condW_of h4 (w_not (w_lt w_lit (w_len_list (w_arg rfl))))
    rw [List.length_map] at h5
    refine Nat.le_of_not_lt fun q => ?_
    have q' : (n : Int) < ((ns.length : Nat) : Int) := by omega
    first
      | (rw [decide_eq_true q'] at h5; exact absurd h5 (by decide))
      | (simp at h5; omega)
  cases hwl with
  | cons w1 w2 =>
    cases w2
    cases w1 with
    | list ho hall => exact ⟨_, _, ns, rfl, rfl, ho, ints_of_wellAll ns _ hall, hlen⟩
theorem post_true (l : OpenLaw) (args : List WData) : l.row.toRowW.claim.post args (.bool true) args = true :=
  postW_of (r := l.row.toRowW) (X := (true == true))
    (show WShape.has [] (.bool true) .bool = true by first | rfl | decide | simp [WShape.has, WShape.arms, WShape.armsAll])
    (show (WTm.eq .res (.lit (.bool true))).value [] { args := args, res := some (.bool true), after := args } = some (.bool (true == true)) from w_eq_bool (w_res rfl) w_lit) rfl
/-- the same from a codeAny of the CALL (for a layer whose function contracts speak of calls) -/
theorem attach_call {l : OpenLaw} {n : Nat} {q : Program} {loose : List Str} {XP : (Str → Option Value) → Heap → Prop} {YP : World → Heap → Prop} {d : DefRec}
    (hn : l.most = some n) (hdf : d.params.defaults = [])
    (call : ∀ (w : World) (s₀ s₁ : Shared) (mg mb : Str → Option Value) (fa : Addr) (o : Obj) (pm cd doc : Value) (a : Addr) (vs : List Value) (ns : List Int),
      Ground q loose [] XP w s₀ mg mb s₁.heap → YP w s₁.heap →
      s₁.heap.get? fa = some o → o.data = .func (docDef d.name d.params d.body d.scope pm cd doc) → s₁.heap.CodeRec cd d.name → mg d.name = some (.ref fa) →
      s₁.heap.get? a = some { cls := .type "list", data := .seq vs.toArray } → IntsAre vs ns → ns.length ≤ n → s₁.gens = #[] →
      codeAny (model l.prog w) callerA (.call (.ref fa) ⟨[.ref a], []⟩) (fun r s' => r = .ok (.ret (.bool true)) ∧ OldK s₁.heap s'.heap ∧ s'.os = s₁.os ∧ AllBare s'.gens) s₁) :
    WalkO q loose XP YP l.row.toRowW d [] (fun f vs => PySem.call f vs) := by
  intro w s₀ s₁ mg mb G Y fa o pm cd doc dV kV ho hd hcd hD hmg hg args vals as hpre hlay hrd hwl hlo
  obtain rfl : dV = .none := Dflts.none hD hdf
  obtain rfl : kV = .none := Dflts.noKw hD
  obtain ⟨a, vs, ns, rfl, rfl, hobj, hints, hlen⟩ := script_of hn hpre hwl
  refine enter_call (codeAny_mono (call w s₀ s₁ mg mb fa o pm cd doc a vs ns G Y ho (fd_plain hd) hcd hmg hobj hints hlen hg) fun r s' hq => ?_)
  obtain ⟨rfl, h2, h3, h4⟩ := hq
  exact ⟨.inl ⟨.bool true, .bool true, [], rfl, fun _ => rfl, .bool true, post_true l _, fun _ => ⟨List.Pairwise.nil, fun _ hm => (nomatch hm)⟩⟩, h2, h3, h4⟩
/-! ### rules over ANY heap (no ledger) from facts about the written part K: the library's own take a ledger (News) for what they write -/
section
variable {prog : Program} {w : World} {A : Around} {E : Value → Shared → Prop} {s : Shared} {K : Frag}
def ledger (h : Heap) (L d : Addr) : List (Addr × Obj) := (List.range h.objs.size).filterMap fun a => if a = L ∨ a = d then none else (h.get? a).map fun o => (a, o)
end
end Att
namespace L2
open PySem PySem.Spec PyProof.Rows
theorem vals_ints : ∀ {vs : List Value} {ns : List Int}, IntsAre vs ns → Vals (ns.map V.int) vs
  | _, _, .nil => .nil
  | _, _, .cons n t h => .cons ⟨t, rfl⟩ (vals_ints h)
/-- nothing is tracked but the script, known to the object (or it is an object of the module) -/
def Only (H : Hp) : Prop := ∀ b, H b = none ∨ ∃ o xs, H b = some (.frz o (.lst xs))
/-- THE HEAD: the law's promise, at the heap behind the top. F, the promise of the law's def, may use that base is part of the heap (so K.In base, base.Ns mainGlobals mg stand in Mod) -/
theorem law_call {P : Program} {w : World} {K : PySem.W.Frag} {mg mb : Str → Option Value} {CX : CXT} {k : Nat} {fa a : Addr} {fd : FuncData} {x : Str} {sp : Sp} {s₁ : Shared} {vs : List Value} {ns : List Int}
    (KX : K.In s₁.heap) (hns : s₁.heap.Ns mainGlobals mg) (hb : s₁.heap.Ns builtinsNs mb) (hbb : ∀ x : Str, x ≠ "__name__" → mb x = bootBuiltins x) (hlim : s₁.heap.NoLimit) (hg : s₁.gens = #[])
    (ha : s₁.heap.get? a = some { cls := .type "list", data := .seq vs.toArray }) (hi : IntsAre vs ns) (hl : ns.length ≤ sizeLine) (hr : Room k callerA)
    (F : ∀ base : Heap, K.In base → base.Ns mainGlobals mg → FnOk P w K mg base CX k fa fd [x] sp) (hbind : ∀ (s : Shared) (u : Value), BindsTo s fd ⟨[u], []⟩ [(x, u)])
    (hsp : ∀ H : Hp, Only H → SqL K H a (ns.map V.int) → sp [.ref a] H (fun v _ => v = .bl true) fun _ _ _ => False)
    (hCX : ∀ H e s', CX [] H s₁ (fun _ _ _ => False) e s' → False) :
    codeAny (model P w) callerA (.call (.ref fa) ⟨[.ref a], []⟩) (fun r s' => r = .ok (.ret (.bool true)) ∧ OldK s₁.heap s'.heap ∧ s'.os = s₁.os ∧ AllBare s'.gens) s₁ := by
  have rv := vals_ints hi
  have lenV := hi.length
  -- from an abstract heap in which nothing but the script may be tracked
  have core : ∀ H : Hp, Only H → SqL K H a (ns.map V.int) → HOk P w H s₁.heap → (∀ b, H b ≠ none → b = a) → (H a ≠ none → K.lookup a = none) →
      codeAny (model P w) callerA (.call (.ref fa) ⟨[.ref a], []⟩) (fun r s' => r = .ok (.ret (.bool true)) ∧ OldK s₁.heap s'.heap ∧ s'.os = s₁.os ∧ AllBare s'.gens) s₁ := by
    intro H hO hS hok hA hK
    have base_of : ∀ {b : Addr} {o : Obj}, s₁.heap.get? b = some o → H b = none → (hidT s₁.heap H).get? b = some o := fun e n => hidT_get e n
    have noA : ∀ {b : Addr} {o : Obj} {es : Array DictEntry} {ep : Nat}, s₁.heap.get? b = some o → o.data = .dict es ep → H b = none := fun {b o es ep} e d => by
      cases q : H b with
      | none => rfl
      | some u =>
        have e' : b = a := hA b (by rw [q]; simp)
        subst e'
        rw [ha] at e; cases e
        have d' : Data.seq vs.toArray _ = Data.dict es ep := d
        cases d'
    have nsK : ∀ {b : Addr} {m : Str → Option Value}, s₁.heap.Ns b m → (hidT s₁.heap H).Ns b m := fun {b m} ⟨o, es, ep, e, d, r⟩ => ⟨o, es, ep, base_of e (noA e d), d, r⟩
    have hKb : K.In (hidT s₁.heap H) := fun b o e => base_of (KX b o e) (by
      cases q : H b with
      | none => rfl
      | some u =>
        have e' : b = a := hA b (by rw [q]; simp)
        subst e'
        rw [hK (by rw [q]; simp)] at e; cases e)
    have hM : Mod K mg (hidT s₁.heap H) := ⟨hKb, nsK hns, ⟨mb, nsK hb, hbb⟩, let ⟨mc, h1, h2⟩ := hlim; ⟨mc, nsK h1, h2⟩⟩
    have e0 : Env0 P w K mg (hidT s₁.heap H) callerA [] s₁ H := ⟨rfl, hM, fun b o e => of_hidT e, Nat.le_of_eq (hidT_size _ _), trivial, fun b hb => absurd (show b ∈ ([] : List Addr) from hb) (by simp), hok, .of_eq hg⟩
    refine codeAny_mono ((F _ hKb (nsK hns)).run callerA [] s₁ H ⟨[.ref a], []⟩ [.ref a] [.ref a] _ _ hr e0 (hbind s₁ (.ref a)) (.cons rfl .nil) (hsp H hO hS)) fun r s' h => ?_
    cases r with
    | error e => exact (hCX H e s' h).elim
    | ok fl =>
      cases fl with
      | next => exact False.elim h
      | brk => exact False.elim h
      | cont => exact False.elim h
      | ret u =>
        obtain ⟨v, H', os, bare, un, hok', r', q⟩ := h
        have q' : v = .bl true := q
        subst q'
        obtain rfl : u = Value.bool true := r'
        refine ⟨rfl, OldK.of_keep fun b o e => ?_, os, bare⟩
        cases q : H b with
        | none => exact un.keep b o e q (by intro z; exact absurd (show b ∈ ([] : List Addr) from z) (by simp)) (by simp)
        | some u =>
          rcases hO b with z | ⟨ob, xs, z⟩
          · rw [q] at z; cases z
          · have z2 := un.frzs b ob _ z
            obtain ⟨e1, _⟩ := hok b _ z
            obtain ⟨e2, _⟩ := hok' b _ z2
            rw [e] at e1; cases e1
            exact e2
  cases hk : K.lookup a with
  | some o =>
    -- the script is one of the module's own objects
    have e := KX a o hk
    rw [ha] at e
    cases e
    refine core (fun _ => none) (fun _ => .inl rfl) (.inr ⟨_, vs.toArray, _, hk, rfl, rfl, rfl, by rw [List.size_toArray, lenV]; exact hl, by simpa using rv⟩) (fun b u z => by have z' : (none : Option HO) = some u := z; cases z') (fun b z => absurd rfl z) fun z => absurd rfl z
  | none =>
    refine core (fun b => if b = a then some (.frz { cls := .type "list", data := .seq vs.toArray } (.lst (ns.map V.int))) else none) (fun b => ?_) (.inl (.inr ⟨{ cls := .type "list", data := .seq vs.toArray }, if_pos rfl⟩)) (fun b u z => ?_) (fun b z => ?_) fun _ => hk
    · by_cases hb : b = a
      · exact .inr ⟨_, _, if_pos hb⟩
      · exact .inl (if_neg hb)
    · by_cases hb : b = a
      · have z' := (if_pos hb).symm.trans z
        cases z'
        subst hb
        exact ⟨ha, by rw [List.length_map]; exact hl, vs, _, rv, ha⟩
      · have z' := (if_neg hb).symm.trans z
        cases z'
    · by_cases hb : b = a
      · exact hb
      · exact absurd (if_neg hb) z
end L2
namespace L2
open PySem PySem.Spec PyProof.Rows
abbrev KOf {K : PySem.W.Frag} {h : Heap} (_ : K.In h) : PySem.W.Frag := K
/-- the goal that k_head leaves (case hc), from the law's promise. F gives the function object fd (K's own) once, then the promise over every base -/
theorem walk_of {l : PySem.W.OpenLaw} {n k : Nat} {q : Program} {loose : List Str} {XP : (Str → Option Value) → Heap → Prop} {YP : World → Heap → Prop} {d : DefRec} {K : Params → PySem.W.Frag} {CX : World → CXT} {sp : World → Sp} {x : Str}
    (hn : l.most = some n) (hn2 : n ≤ sizeLine) (hdf : d.params.defaults = []) (hr : Room k callerA)
    (hY : ∀ (w : World) (h : Heap), YP w h → (K w.params).In h)
    (F : ∀ (w : World) (mg : Str → Option Value) (fa : Addr) (h : Heap), (K w.params).In h → h.Ns mainGlobals mg → mg d.name = some (.ref fa) →
      ∃ fd : FuncData, (∀ (s : Shared) (u : Value), BindsTo s fd ⟨[u], []⟩ [(x, u)]) ∧
        ∀ base : Heap, (K w.params).In base → base.Ns mainGlobals mg → FnOk l.prog w (K w.params) mg base (CX w) k fa fd [x] (sp w))
    (hsp : ∀ (w : World) (H : Hp) (a : Addr) (ns : List Int), ns.length ≤ n → Only H → SqL (K w.params) H a (ns.map V.int) → sp w [.ref a] H (fun v _ => v = .bl true) fun _ _ _ => False)
    (hCX : ∀ (w : World) (H : Hp) (s : Shared) (e : Value) (s' : Shared), CX w [] H s (fun _ _ _ => False) e s' → False) :
    PySem.W.WalkO q loose XP YP l.row.toRowW d [] (fun f vs => PySem.call f vs) := by
  refine Att.attach_call hn hdf fun w s₀ s₁ mg mb fa o pm cd doc a vs ns G Y ho hd hcd hmg hobj hints hlen hg => ?_
  have KX := hY w _ Y
  obtain ⟨fd, hb, hF⟩ := F w mg fa _ KX G.T.g hmg
  exact law_call KX G.T.g G.T.b G.T.builtins G.T.nolimit hg hobj hints (Nat.le_trans hlen hn2) hr hF hb (fun H hO hS => hsp w H a ns hlen hO hS) fun H e s' => hCX w H s₁ e s'
end L2
/- THE LAST THEOREM (shape; LID, My.* are yours):
   My.Adr: a structure of the addresses that your layer names (classes, functions); My.Txt K t: a structure (Prop) of the equations over K;
   My.txt_mk : {K} {implicit addresses ..} (e1 : nsIn K mainGlobals "law" = some (some (.ref f))) (e2 : K.lookup f = some ⟨oc, od, .func (fnOf "law" "law" params body scope dV kV doc pm an cdv ct), sl⟩) (e3 : codeIn K cdv "law" = true) .. : ∃ t, My.Txt K t

set_option maxRecDepth 100000 in
set_option maxHeartbeats 0 in
theorem PySem.Challenge.cw_LID_holds : PySem.Challenge.rw_LID.Holds := by
  w_on; o_law; k_head; (case hw => w_witness2)
  k_fill
  refine L2.walk_of (l := PySem.Challenge.rw_LID) (n := 63) (k := 40) (x := "script") (CX := fun w => ..) (sp := fun _ => My.sp_law) rfl (by decide) rfl ⟨rfl, by decide, by decide⟩ (fun w h Y => PySem.W.kIn_of Y) ?F ?S ?C
  case F =>
    intro w mg fa h KX G hmg
    have T : ∃ t, My.Txt (L2.KOf KX) t := by
      dsimp only [L2.KOf]                          -- K must stand as «<heap const> w.params» for k_is
      refine' My.txt_mk ?e1 ?e2 ?e3 ..
      (case e1 => PySem.W.k_is)                    -- in the order: a name -> its address -> its object -> its parts
      (case e2 => PySem.W.k_is)
      ..
    obtain ⟨t, T⟩ := T
    have e0 := hmg.symm.trans (PySem.W.mg_of KX G T.law)
    cases e0                                       -- fa is the law's own address
    exact ⟨_, fun s u => .of_eq rfl, fun base kb nb => My.law_fn T kb nb⟩     -- if «.of_eq rfl» comes too early: refine' ⟨_, ?b, fun base kb nb => My.law_fn T kb nb⟩; exact fun s u => .of_eq rfl
  case S => exact fun w H a ns hl hO hS => ..
  case C => exact ..
(the tactic k_is has no namespace: write k_is) -/
/-! SHORT WORDS over the layer: a def of the text, its body, what a loop and a test want. -/
namespace L2
open PySem PySem.Spec PyProof.Rows
def defArgs (s : Stmt) : Arguments := match s with
  | .FunctionDef _ a _ _ _ _ _ _ _ _ => a
  | _ => { posonlyargs := [], args := [], vararg := none, kwonlyargs := [], kw_defaults := [], kwarg := none, defaults := [] }
def defBody (s : Stmt) : List Stmt := match s with
  | .FunctionDef _ _ b _ _ _ _ _ _ _ => b
  | _ => []
def defScope (s : Stmt) : Scope := match s with
  | .FunctionDef _ _ _ _ _ _ sc _ _ _ => sc
  | _ => { kind := .function, names := [], isGenerator := false, isCoroutine := false }
/-! ### no exception leaves a def -/
abbrev CX0 : CXT := fun _ _ _ _ _ _ => False
abbrev E0 : XK := fun _ _ _ => False
theorem pass0 {X : Cx} : Passes CX0 X E0 := fun _ _ _ _ _ _ _ h => h.elim
/-! ### a def (or method) of the text as it stands behind the top -/
structure Fun (K : PySem.W.Frag) (x qual : Str) (st : Stmt) (f : Addr) (fd : FuncData) : Prop where
  ex : ∃ (oc : Value) (od : Option Addr) (kV doc pm : Value) (an : Option Addr) (cdv ct : Value) (osl : Array (Option Value)),
    fd = PySem.W.fnOf x qual (defArgs st) (defBody st) (defScope st) .none kV doc pm an cdv ct ∧ K.lookup f = some ⟨oc, od, .func fd, osl⟩ ∧ PySem.W.codeIn K cdv qual = true
  kp : PySem.W.keepIn K (.ref f) = true
section
variable {P : Program} {w : World} {K : PySem.W.Frag} {mg : Str → Option Value} {base : Heap}
/-- THE RULE for a def: its body as a term of rules, and the reading of that term -/
theorem Fun.ok {x qual : Str} {st : Stmt} {f : Addr} {fd : FuncData} {N ps : List Str} {k : Nat} {sp : Sp} (F : Fun K x qual st f fd) (S : FnScope N ps (defScope st)) (len : ∀ vs H Q E, sp vs H Q E → vs.length = ps.length)
    (hbody : ∀ (cdv : Value) (A : Around) (outer : List Env) (s : Shared) (H : Hp) (vs : List V) (Q : VK) (E : XK), Room k (A.deeper (envOfC qual (defScope st) s.heap.objs.size f cdv)) → sp vs H Q E →
      ∃ t, PSs (cxOf CX0 P w K mg base N qual (defScope st) f cdv A outer s H E).nox (defBody st) t ∧ t { nx := fun _ H' => Q .non H', rt := Q } (start N vs) H) : FnOk P w K mg base CX0 (k + 1) f fd ps sp := by
  obtain ⟨oc, od, kV, doc, pm, an, cdv, ct, osl, rfl, lk, hcd⟩ := F.ex
  refine fn_of lk hcd S len fun A outer s H vs Q E hr hsp => ?_
  obtain ⟨t, h, q⟩ := hbody cdv A outer s H vs Q E hr hsp
  exact ⟨t, h.nox, q⟩
/-- how its arguments bind (no defaults): h is «fun _ _ _ _ _ _ us hl => match us, hl with | [_, _], _ => rfl», one _ a parameter -/
theorem Fun.binds {x qual : Str} {st : Stmt} {f : Addr} {fd : FuncData} {ps : List Str} (F : Fun K x qual st f fd)
    (h : ∀ (kV doc pm : Value) (an : Option Addr) (cdv ct : Value) (us : List Value), us.length = ps.length → bindArgs (PySem.W.fnOf x qual (defArgs st) (defBody st) (defScope st) .none kV doc pm an cdv ct) ⟨us, []⟩ = pure (ps.zip us)) : Binds K fd ps [] := by
  obtain ⟨oc, od, kV, doc, pm, an, cdv, ct, osl, rfl, lk, hcd⟩ := F.ex
  exact .all (h kV doc pm an cdv ct)
theorem fun_mk {x qual : Str} {st : Stmt} {f : Addr} {oc : Value} {od an : Option Addr} {osl : Array (Option Value)} {kV doc pm cdv ct : Value} (l : K.lookup f = some ⟨oc, od, .func (PySem.W.fnOf x qual (defArgs st) (defBody st) (defScope st) .none kV doc pm an cdv ct), osl⟩)
    (c : PySem.W.codeIn K cdv qual = true) (k : PySem.W.keepIn K (.ref f) = true) : Fun K x qual st f (PySem.W.fnOf x qual (defArgs st) (defBody st) (defScope st) .none kV doc pm an cdv ct) := ⟨⟨oc, od, kV, doc, pm, an, cdv, ct, osl, rfl, l, c⟩, k⟩
end
/-! ### expressions in short: the name that stands in the i-th slot -/
section
variable {X : Cx}
theorem pv (i : Nat) {x : Str} {pos : Pos} (hN : X.N[i]? = some x := by rfl) (hv : Vis X.env.scope x := by first | exact Or.inl rfl | exact Or.inr (Or.inl rfl) | exact Or.inr (Or.inr rfl)) (hd : (x == ("__debug__" : Str)) = false := by decide)
    (hcd : (x == ("__classdict__" : Str)) = false := by decide) : PE X (.Name x pos) (tVar i) := pe_var hN hv hd hcd
end
theorem ite2 {c A B : Prop} [Decidable c] (h1 : c → A) (h2 : ¬ c → B) : if c then A else B := by
  by_cases h : c
  · rw [if_pos h]
    exact h1 h
  · rw [if_neg h]
    exact h2 h
/-! ### heaps -/
/-- all that was tracked is as it was -/
def Same (H H' : Hp) : Prop := ∀ b o, H b = some o → H' b = some o
theorem Same.refl (H : Hp) : Same H H := fun _ _ h => h
theorem Same.trans {H H1 H2 : Hp} (a : Same H H1) (b : Same H1 H2) : Same H H2 := fun c o h => b c o (a c o h)
theorem Same.free {H H' : Hp} (e : Same H H') {l : Addr} (h : H' l = Option.none) : H l = Option.none := by
  cases q : H l with
  | none => rfl
  | some o =>
    rw [e l o q] at h
    cases h
theorem Same.seq {K : PySem.W.Frag} {H H' : Hp} {a : Addr} {xs : List V} (e : Same H H') (h : SqL K H a xs) : SqL K H' a xs := by
  rcases h with (h | ⟨o, h⟩) | h
  · exact .inl (.inl (e _ _ h))
  · exact .inl (.inr ⟨o, e _ _ h⟩)
  · exact .inr h
end L2
namespace L2
open PySem PySem.Spec PyProof.Rows
section
variable {X : Cx}
end
/-! ### a dict's pairs: keys that differ -/
section
variable {κ : Type} [DecidableEq κ]
end
end L2
set_option Elab.async false
set_option linter.all false
set_option maxRecDepth 100000
set_option maxHeartbeats 4000000
/-! A LIST COMPREHENSION over the hand layer: its block is a context of its own, the names around it are read through their cells. -/
namespace L2
open PySem PySem.Spec PyProof.Rows
/-- the cells that a block takes from the frame around it -/
def clos (cells : List (Str × Addr)) : List (Str × NameKind) → List (Str × Addr) → List (Str × Addr)
  | [], acc => acc
  | (n, k) :: r, acc => clos cells r (if k = .free then (n, (cells.lookup n).getD 0) :: acc else acc)
theorem clos_sub {cells : List (Str × Addr)} : ∀ {names : List (Str × NameKind)} {acc : List (Str × Addr)}, (∀ y ∈ names, y.2 = .free → ∃ c, cells.lookup y.1 = some c) →
    (∀ x c, acc.lookup x = some c → cells.lookup x = some c) → ∀ x c, (clos cells names acc).lookup x = some c → cells.lookup x = some c
  | [], _, _, h2, x, c, e => h2 x c e
  | (n, k) :: r, acc, h1, h2, x, c, e => by
    refine clos_sub (names := r) (fun y hy => h1 y (List.mem_cons_of_mem _ hy)) ?_ x c e
    intro x c e
    by_cases hk : k = .free
    · subst hk
      rw [if_pos rfl] at e
      obtain ⟨d, hd⟩ := h1 (n, .free) List.mem_cons_self rfl
      rw [hd, Option.getD_some, List.lookup_cons] at e
      cases hx : x == n with
      | true =>
        rw [hx] at e
        have e' : d = c := Option.some.inj e
        rw [eq_of_beq hx, hd, e']
      | false =>
        rw [hx] at e
        exact h2 x c e
    · rw [if_neg hk] at e
      exact h2 x c e
theorem clos_has {cells : List (Str × Addr)} : ∀ {names : List (Str × NameKind)} {acc : List (Str × Addr)} {x : Str}, ((∃ c, acc.lookup x = some c) ∨ (x, NameKind.free) ∈ names) → ∃ c, (clos cells names acc).lookup x = some c
  | [], _, x, h => by
    rcases h with h | h
    · exact h
    · exact absurd h (by simp)
  | (n, k) :: r, acc, x, h => by
    refine clos_has (names := r) (x := x) ?_
    by_cases hr : (x, NameKind.free) ∈ r
    · exact .inr hr
    refine .inl ?_
    by_cases hk : k = .free
    · subst hk
      rw [if_pos rfl, List.lookup_cons]
      cases hx : x == n with
      | true => exact ⟨_, rfl⟩
      | false =>
        rcases h with h | h
        · exact h
        · rcases List.mem_cons.mp h with q | q
          · have : x = n := congrArg Prod.fst q
            rw [this, beq_self_eq_true] at hx
            cases hx
          · exact absurd q hr
    · rw [if_neg hk]
      rcases h with h | h
      · exact h
      · rcases List.mem_cons.mp h with q | q
        · exact absurd (congrArg Prod.snd q).symm hk
        · exact absurd q hr
theorem closureFor_clos {scope : Scope} {env : Env} (h : ∀ y ∈ scope.names, y.2 = .free → ∃ c, env.cells.lookup y.1 = some c) : closureFor scope env = pure (clos env.cells scope.names []) := by
  have go : ∀ (names : List (Str × NameKind)) (acc : List (Str × Addr)), (∀ y ∈ names, y.2 = .free → ∃ c, env.cells.lookup y.1 = some c) →
      (forIn names acc fun (x : Str × NameKind) (r : List (Str × Addr)) => (match x with
        | (name, kind) => if (kind == NameKind.free) = true then (do let a ← cellOf env name; pure (ForInStep.yield ((name, a) :: r))) else pure (ForInStep.yield r) : Sem (ForInStep (List (Str × Addr))))) = (pure (clos env.cells names acc) : Sem _) := by
    intro names
    induction names with
    | nil => intro acc _; rfl
    | cons y r ih =>
      intro acc hy
      obtain ⟨n, k⟩ := y
      rw [List.forIn_cons]
      by_cases hk : k = .free
      · subst hk
        obtain ⟨c, hc⟩ := hy (n, .free) List.mem_cons_self rfl
        have e1 : cellOf env n = pure c := by unfold cellOf; rw [hc]
        show ((if (NameKind.free == NameKind.free) = true then (do let a ← cellOf env n; pure (ForInStep.yield ((n, a) :: acc))) else pure (ForInStep.yield acc)) >>= _) = _
        rw [if_pos (by decide), e1]
        have e2 : clos env.cells ((n, .free) :: r) acc = clos env.cells r ((n, c) :: acc) := by
          show clos env.cells r (if NameKind.free = NameKind.free then (n, (env.cells.lookup n).getD 0) :: acc else acc) = _
          rw [if_pos rfl, hc, Option.getD_some]
        rw [e2]
        exact ih ((n, c) :: acc) fun y hy' => hy y (List.mem_cons_of_mem _ hy')
      · have hb : (k == NameKind.free) = false := by simpa using hk
        show ((if (k == NameKind.free) = true then (do let a ← cellOf env n; pure (ForInStep.yield ((n, a) :: acc))) else pure (ForInStep.yield acc)) >>= _) = _
        rw [if_neg (by rw [hb]; exact Bool.false_ne_true)]
        have e2 : clos env.cells ((n, k) :: r) acc = clos env.cells r acc := by
          show clos env.cells r (if k = NameKind.free then (n, (env.cells.lookup n).getD 0) :: acc else acc) = _
          rw [if_neg hk]
        rw [e2]
        exact ih acc fun y hy' => hy y (List.mem_cons_of_mem _ hy')
  simp only [closureFor]
  have := go scope.names [] h
  rw [this]
  rfl
theorem relabel_free {env : Env} : ∀ {names : List (Str × NameKind)} {x : Str} {k' : NameKind}, (∀ y ∈ names, y.2 ≠ .cell) → (k' = .cell ∨ k' = .free) →
    (names.map fun (n, k) => if (k == NameKind.free && env.scope.kind == .function && env.kindOf n == some .cell) then (n, NameKind.cell) else (n, k)).lookup x = some k' → (x, NameKind.free) ∈ names
  | [], _, _, _, _, h => by simp at h
  | (n, k) :: r, x, k', hc, hk, h => by
    have h : List.lookup x ((if (k == NameKind.free && env.scope.kind == .function && env.kindOf n == some .cell) = true then (n, NameKind.cell) else (n, k)) :: _) = _ := h
    have ih := @relabel_free env r x k' (fun y hy => hc y (List.mem_cons_of_mem _ hy)) hk
    have nc : k ≠ .cell := hc (n, k) List.mem_cons_self
    by_cases hb : (k == NameKind.free && env.scope.kind == .function && env.kindOf n == some .cell) = true
    · rw [if_pos hb, List.lookup_cons] at h
      have kf : k = .free := by
        simp only [Bool.and_eq_true] at hb
        exact eq_of_beq hb.1.1
      cases hx : x == n with
      | true => rw [eq_of_beq hx, kf]; exact List.mem_cons_self
      | false => rw [hx] at h; exact List.mem_cons_of_mem _ (ih h)
    · rw [if_neg hb, List.lookup_cons] at h
      cases hx : x == n with
      | true =>
        rw [hx] at h
        have e : k = k' := Option.some.inj h
        rcases hk with q | q
        · exact absurd (e.trans q) nc
        · rw [eq_of_beq hx, e, q]; exact List.mem_cons_self
      | false => rw [hx] at h; exact List.mem_cons_of_mem _ (ih h)
/-- the context of a comprehension's block -/
def Cx.block (X : Cx) (N' : List Str) (scope : Scope) (C : Addr) (s₀ : Shared) (H₀ : Hp) (ex : List Addr) : Cx :=
  { X with N := N', s₀ := s₀, H₀ := H₀, env := compEnvC scope (clos X.env.cells scope.names []) C X.env, outer := X.stack, ex := ex, fn := fun _ => false, xe := fun _ _ => False }
/-- what a block's names must be: tn its own, M the names around it (those that it hides stand as others that it has not) -/
structure BlkOk (X : Cx) (tn M : List Str) (scope : Scope) : Prop where
  kind : scope.kind = .function
  nocell : ∀ y ∈ scope.names, y.2 ≠ .cell
  own : ∀ y ∈ scope.names, y.2 = .local → scope.names.lookup y.1 = some .local
  free : ∀ y ∈ scope.names, y.2 = .free → X.env.kindOf y.1 = some .cell ∨ X.env.kindOf y.1 = some .free
  len : M.length = X.N.length
  same : ∀ (i : Nat) (x : Str), M[i]? = some x → (X.N[i]? = some x ∧ scope.names.lookup x ≠ some .local) ∨ scope.names.lookup x = none
def blkOk (kindOf : Str → Option NameKind) (N M : List Str) (scope : Scope) : Bool :=
  scope.names.all (fun y => decide (y.2 ≠ .cell) && (decide (y.2 ≠ .local) || decide (scope.names.lookup y.1 = some .local)) && (decide (y.2 ≠ .free) || decide (kindOf y.1 = some .cell) || decide (kindOf y.1 = some .free)))
  && decide (M.length = N.length) && (M.zip N).all (fun p => (decide (p.1 = p.2) && decide (scope.names.lookup p.1 ≠ some .local)) || decide (scope.names.lookup p.1 = none))
theorem BlkOk.of {X : Cx} {tn M : List Str} {scope : Scope} (hk : scope.kind = .function) (h : blkOk X.env.kindOf X.N M scope = true) : BlkOk X tn M scope := by
  unfold blkOk at h
  rw [Bool.and_eq_true, Bool.and_eq_true] at h
  obtain ⟨⟨h1, h2⟩, h3⟩ := h
  have h1 := List.all_eq_true.mp h1
  have h3 := List.all_eq_true.mp h3
  have h2 := of_decide_eq_true h2
  refine ⟨hk, fun y hy => ?_, fun y hy hl => ?_, fun y hy hf => ?_, h2, fun i x e => ?_⟩
  · have q := h1 y hy
    simp only [Bool.and_eq_true] at q
    exact of_decide_eq_true q.1.1
  · have q := h1 y hy
    simp only [Bool.and_eq_true, Bool.or_eq_true] at q
    rcases q.1.2 with z | z
    · exact absurd hl (of_decide_eq_true z)
    · exact of_decide_eq_true z
  · have q := h1 y hy
    simp only [Bool.and_eq_true, Bool.or_eq_true] at q
    rcases q.2 with (z | z) | z
    · exact absurd hf (of_decide_eq_true z)
    · exact .inl (of_decide_eq_true z)
    · exact .inr (of_decide_eq_true z)
  · have hi : i < M.length := (List.getElem?_eq_some_iff.mp e).1
    have hi' : i < X.N.length := by omega
    have hz : (M.zip X.N)[i]? = some (x, X.N[i]) := by
      rw [List.getElem?_zip_eq_some]
      exact ⟨e, by simp [hi']⟩
    have q := h3 _ (List.mem_of_getElem? hz)
    simp only [Bool.or_eq_true, Bool.and_eq_true] at q
    rcases q with ⟨a, b⟩ | a
    · have a : x = X.N[i] := of_decide_eq_true a
      exact .inl ⟨by rw [List.getElem?_eq_getElem hi', ← a], of_decide_eq_true b⟩
    · exact .inr (of_decide_eq_true a)
section
variable {X : Cx} {pins : List (Addr × Obj)} {σ : St} {H : Hp} {s : Shared} {tn M : List Str} {scope : Scope}
theorem Inv.freeCells (I : Inv X pins σ H s) (B : BlkOk X tn M scope) : ∀ y ∈ scope.names, y.2 = .free → ∃ c, X.env.cells.lookup y.1 = some c := fun y hy hf => I.ok.has y.1 (B.free y hy hf)
/-- the block's begin -/
theorem block_start {fp : List Addr} {h₁ : Heap} {C D : Addr} {tk : Nat} {oD : Obj} (I : Inv X pins σ H s) (B : BlkOk X tn M scope) (hf : ∀ b ∈ fp, FpOk X pins H b) (hfl : ∀ b ∈ fp, b < s.heap.objs.size)
    (old : ∀ b o, s.heap.get? b = some o → h₁.get? b = some o) (hC : s.heap.objs.size ≤ C) (hD : s.heap.objs.size ≤ D) (hDC : D ≠ C) (ns : ∃ m, h₁.Ns C m) (eD : h₁.get? D = some oD) (nD : ∀ v, oD.data ≠ .cell v) :
    Inv (X.block (tn ++ M) scope C s H fp) (pins ++ [(D, oD)]) (List.replicate tn.length none ++ σ) H { s with heap := h₁, toks := tk } := by
  have fr := I.freeCells B
  have sub : ∀ x c, (clos X.env.cells scope.names []).lookup x = some c → X.env.cells.lookup x = some c := clos_sub fr (fun x c e => by simp at e)
  have cellLt : ∀ x c, X.env.cells.lookup x = some c → c < s.heap.objs.size := fun x c e => let ⟨v, q⟩ := I.cell x c e; q.lt
  refine ⟨⟨I.ok.mod, B.kind, I.ok.glob, I.ok.blt, hC, fun x y c h1 h2 => I.ok.inj x y c (sub x c h1) (sub y c h2), fun x hx => ?_, fun x c h => (by cases h), I.ok.hd, I.ok.frames, .inl rfl, fun b hb => ⟨?_, fun x c e => (hf b hb).2.2.2.2.1 x c (sub x c e)⟩,
      I.bs, Nat.le_trans I.ok.bsz I.sz, fun b o e hb => ?_, fun b hb hz => ?_, I.stack, I.stkFree⟩,
    rfl, I.bare, Un.kept old, ?_, fun x c e => ?_, I.hok.fresh hC, fun x c e => I.freeC x c (sub x c e), fun p hp => ?_, I.hok.kept old, ?_⟩
  · -- has
    have hx : (relabel scope X.env).names.lookup x = some .cell ∨ (relabel scope X.env).names.lookup x = some .free := hx
    have hm : (x, NameKind.free) ∈ scope.names := by
      rcases hx with q | q
      · exact relabel_free B.nocell (.inl rfl) q
      · exact relabel_free B.nocell (.inr rfl) q
    exact clos_has (.inr hm)
  · exact Nat.ne_of_lt (Nat.lt_of_lt_of_le (hfl b hb) hC)
  · -- noex
    rcases (hf b hb).2.2.2.1 with z | z
    · exact I.ok.noex b o e z
    · exact absurd (Nat.lt_of_lt_of_le (Heap.lt_size e) (Nat.le_trans I.ok.bsz z)) (Nat.lt_irrefl _)
  · -- exfs
    rcases List.mem_cons.mp (I.stkSub b hz) with q | q
    · exact (hf b hb).2.1 q
    · exact (hf b hb).2.2.1 q
  · -- loc
    obtain ⟨m', hn⟩ := ns
    refine ⟨m', hn, fun i x v e1 e2 e3 => ?_⟩
    have e1 : (tn ++ M)[i]? = some x := e1
    by_cases hi : i < tn.length
    · rw [List.getElem?_append_left (by simpa using hi), List.getElem?_replicate, if_pos hi] at e2
      cases e2
    · rw [List.getElem?_append_right (by simpa using Nat.not_lt.mp hi), List.length_replicate] at e2
      rw [List.getElem?_append_right (Nat.not_lt.mp hi)] at e1
      have e3 : (relabel scope X.env).names.lookup x = some .local ∨ (relabel scope X.env).names.lookup x = some .cell ∨ (relabel scope X.env).names.lookup x = some .free := e3
      have hvis : ((relabel scope X.env).names.lookup x = some .cell ∨ (relabel scope X.env).names.lookup x = some .free) ∧ (x, NameKind.free) ∈ scope.names ∧ X.N[i - tn.length]? = some x := by
        have lk : ∀ k, (relabel scope X.env).names.lookup x = some k → scope.names.lookup x ≠ none := by
          intro k q z
          have : ∀ (names : List (Str × NameKind)), names.lookup x = none → (names.map fun (n, k) => if (k == NameKind.free && X.env.scope.kind == .function && X.env.kindOf n == some .cell) then (n, NameKind.cell) else (n, k)).lookup x = none := by
            intro names
            induction names with
            | nil => intro _; rfl
            | cons y r ih =>
              obtain ⟨n, k⟩ := y
              intro hz
              rw [List.lookup_cons] at hz
              show List.lookup x ((if (k == NameKind.free && X.env.scope.kind == .function && X.env.kindOf n == some .cell) = true then (n, NameKind.cell) else (n, k)) :: _) = none
              cases hx : x == n with
              | true => rw [hx] at hz; cases hz
              | false =>
                rw [hx] at hz
                split <;> (rw [List.lookup_cons, hx]; exact ih hz)
          have q' : (relabel scope X.env).names.lookup x = none := this scope.names z
          rw [q] at q'
          cases q'
        rcases B.same _ x e1 with ⟨a, b⟩ | b
        · rcases e3 with q | q | q
          · exfalso
            -- local in the relabelled table is local in the block's own
            have : ∀ (names : List (Str × NameKind)), (names.map fun (n, k) => if (k == NameKind.free && X.env.scope.kind == .function && X.env.kindOf n == some .cell) then (n, NameKind.cell) else (n, k)).lookup x = some .local → names.lookup x = some .local := by
              intro names
              induction names with
              | nil => intro hz; simp at hz
              | cons y r ih =>
                obtain ⟨n, k⟩ := y
                intro hz
                have hz : List.lookup x ((if (k == NameKind.free && X.env.scope.kind == .function && X.env.kindOf n == some .cell) = true then (n, NameKind.cell) else (n, k)) :: _) = some .local := hz
                rw [List.lookup_cons]
                cases hx : x == n with
                | true =>
                  split at hz
                  · rw [List.lookup_cons, hx] at hz; cases hz
                  · rw [List.lookup_cons, hx] at hz; exact hz
                | false =>
                  split at hz <;> (rw [List.lookup_cons, hx] at hz; exact ih hz)
            exact b (this _ q)
          · exact ⟨.inl q, relabel_free B.nocell (.inl rfl) q, a⟩
          · exact ⟨.inr q, relabel_free B.nocell (.inr rfl) q, a⟩
        · exfalso
          rcases e3 with q | q | q <;> exact lk _ q b
      obtain ⟨hk, hm, hN⟩ := hvis
      obtain ⟨m, hn0, hl⟩ := I.loc
      have ko := B.free (x, .free) hm rfl
      obtain ⟨u, r, l⟩ := hl _ x v hN e2 (.inr ko)
      refine ⟨u, r, .inr ⟨hk, ?_⟩⟩
      rcases l with ⟨z, _⟩ | ⟨_, c, ec, hc⟩
      · have z : X.env.kindOf x = some .local := z
        rcases ko with q | q
        · have q : X.env.kindOf x = some .cell := q
          rw [z] at q; cases q
        · have q : X.env.kindOf x = some .free := q
          rw [z] at q; cases q
      · obtain ⟨c', ec'⟩ := clos_has (cells := X.env.cells) (names := scope.names) (acc := []) (.inr hm)
        have : X.env.cells.lookup x = some c' := sub x c' ec'
        rw [ec] at this
        cases this
        obtain ⟨o, ho, hd⟩ := hc
        exact ⟨c, ec', o, old _ _ ho, hd⟩
  · obtain ⟨v, o, ho, hd⟩ := I.cell x c (sub x c e)
    exact ⟨v, o, old _ _ ho, hd⟩
  · rcases List.mem_append.mp hp with q | q
    · obtain ⟨a, b, c, d, e⟩ := I.pin p (List.mem_append_left _ q)
      refine ⟨old _ _ a, b, Nat.ne_of_lt (Nat.lt_of_lt_of_le (Heap.lt_size a) hC), fun z => ?_, e⟩
      rcases List.mem_cons.mp (I.stkSub _ z) with q | q
      · exact c q
      · exact d q
    · rcases List.mem_append.mp q with q | q
      · obtain ⟨a, b, c, d, e⟩ := I.pin p (List.mem_append_right _ q)
        refine ⟨old _ _ a, b, Nat.ne_of_lt (Nat.lt_of_lt_of_le (Heap.lt_size a) hC), fun z => ?_, e⟩
        rcases List.mem_cons.mp (I.stkSub _ z) with q | q
        · exact c q
        · exact d q
      · obtain rfl : p = (D, oD) := List.mem_singleton.mp q
        refine ⟨eD, I.hok.fresh hD, hDC, fun z => ?_, nD⟩
        rcases List.mem_cons.mp (I.stkSub _ z) with q | q
        · exact Nat.ne_of_gt (Nat.lt_of_lt_of_le I.lt hD) q
        · exact I.nofs hD q
  · show (List.replicate tn.length none ++ σ).length = (tn ++ M).length
    rw [List.length_append, List.length_append, List.length_replicate, I.len, B.len]
/-- the block's end: what it filled is tracked from here on -/
theorem block_end {N' : List Str} {fp : List Addr} {C D : Addr} {σ' : St} {H' : Hp} {s' : Shared} {us : List Value} {n : Nat} {vs : List V} {ps : List (Addr × Obj)} (I : Inv X pins σ H s)
    (J : Inv (X.block N' scope C s H fp) ps σ' H' s') (hf : ∀ b ∈ fp, FpOk X pins H b) (hD : s.heap.objs.size ≤ D) (eD : s'.heap.get? D = some { cls := .type "list", data := .seq us.toArray n }) (nD : H' D = none)
    (r : Vals vs us) (hz : vs.length ≤ sizeLine) : Inv X pins σ (upd H' D (.lst vs)) s' := by
  have neD : ∀ b o, s.heap.get? b = some o → b ≠ D := fun b o e => Nat.ne_of_lt (Nat.lt_of_lt_of_le (Heap.lt_size e) hD)
  have neT : ∀ b o, H' b = some o → b ≠ D := fun b o e z => by rw [z, nD] at e; cases e
  have u : Un (frs X.stack) fp H H' s.heap s'.heap := J.base
  refine I.call' (ch := fp) J.os ⟨u.keep, u.slot, fun b o e n hx => ?_, u.there, fun b xs e => ?_, fun b o v e => ?_, fun b ps e => ?_⟩ (fun a o e => ?_) J.bare (fun b hb => ⟨(hf b hb).2.2.2.1, (hf b hb).2.1, (hf b hb).2.2.2.2.1, (hf b hb).2.2.2.2.2⟩)
  · rw [upd_ne (neD b o e)]
    exact u.free b o e n hx
  · have q := u.tups b xs e
    rw [upd_ne (neT b _ q)]
    exact q
  · have q := u.frzs b o v e
    rw [upd_ne (neT b _ q)]
    exact q
  · obtain ⟨more, q⟩ := u.tbls b ps e
    exact ⟨more, by rw [upd_ne (neT b _ q)]; exact q⟩
  · by_cases ha : a = D
    · subst ha
      rw [upd_same] at e
      cases e
      exact ⟨hz, us, n, r, eD⟩
    · rw [upd_ne ha] at e
      exact (J.hok a o e).stay (fun b v _ q => q) (fun b q => by rw [upd_ne (neT b _ q)]; exact q) fun b xs q => by rw [upd_ne (neT b _ q)]; exact q
end
/-- the tests of a comprehension -/
def PTs (Y : Cx) (ifs : List Expr) (t : TT) : Prop :=
  ∀ (pins : List (Addr × Obj)) (s : Shared) (σ : St) (H : Hp) (Q : Bool → Hp → Prop), Inv Y pins σ H s → t σ H Q →
    wpAny (model Y.prog Y.w) Y.A (forIn ifs true fun c r => if r = true then do let ok ← isTrue c Y.env (eval c Y.env); pure (ForInStep.yield ok) else pure (ForInStep.yield r)) (TP Y pins σ Q) Y.xe s
def tAll : TT := fun _ H Q => Q true H
theorem pts_nil {Y : Cx} : PTs Y [] tAll := fun _ _ _ H _ I h => wpAny_tests_nil ⟨H, I, h⟩
theorem pts_one {Y : Cx} {c : Expr} {t : TT} (hc : PT Y c t) : PTs Y [c] t := fun pins s σ H Q I h => wpAny_tests_one (hc pins s σ H Q I h)
/-- a comprehension: W the invariant by the turn, a measure, what was gathered -/
def tComp (wi : TI) (m : Nat) (g : TG) (tc : TT) (te : TE) : TE := fun σ H Q => wi σ H fun J H1 =>
  ∃ W : Nat → Nat → List V → St → Hp → Prop, (∃ k, W 0 k [] (List.replicate m none ++ σ) H1) ∧ ∀ i k vs σ H, W i k vs σ H →
    (J.stop i H ∧ ∀ p, H p = none → Q (.ref p) (upd H p (.lst vs))) ∨
    (J.go i H ∧ vs.length < sizeLine ∧ ∃ N : List V → St → Hp → Prop, (∀ vs' σ' H', N vs' σ' H' → ∃ k', k' < k ∧ W (i + 1) k' vs' σ' H') ∧
      ∀ x H', J.yld i H x H' → g x σ H' fun σ2 H2 => tc σ2 H2 fun b H3 => if b = true then te σ2 H3 fun y H4 => N (vs ++ [y]) σ2 H4 else N vs σ2 H3)
section
variable {prog : Program} {w : World} {A : Around} {R : Result → Shared → Prop} {s : Shared}
theorem compLoop_go {elt target iter : Expr} {ifs : List Expr} {scope : Scope} {pos : Pos} {it acc : Value} {env : Env} (I : Nat → Shared → Prop)
    (turn : ∀ n s, I n s → wpAny (model prog w) A (pyNext it) (fun r s₁ => match r with
      | none => R (.ok .next) s₁
      | some v => wpAny (model prog w) A (letOwnedTupleGo target it v) (fun _ s₀ => wpAny (model prog w) A (assign target env v) (fun _ s₂ =>
          wpAny (model prog w) A (forIn ifs true fun c r => if r = true then do let ok ← isTrue c env (eval c env); pure (ForInStep.yield ok) else pure (ForInStep.yield r)) (fun ok s₃ =>
            if ok = true then wpAny (model prog w) A (eval elt env) (fun x s₄ =>
              wpAny (model prog w) A (call (.builtin "list.append") [acc, x]) (fun _ s₅ => ∃ m, m < n ∧ I m s₅) (fun _ _ => False) s₄) (fun _ _ => False) s₃
            else ∃ m, m < n ∧ I m s₃) (fun _ _ => False) s₂) (fun _ _ => False) s₀) (fun _ _ => False) s₁) (fun _ _ => False) s)
    (n : Nat) (h : I n s) : codeAny (model prog w) A (.compLoop (.ListComp elt [⟨target, iter, ifs, 0⟩] scope pos) 0 it acc env) R s := by
  refine codeAny_loop rfl I (fun n s hI => ?_) n h
  show wpAny _ A ((compTurn (.ListComp elt [⟨target, iter, ifs, 0⟩] scope pos) 0 it acc env).onRaise (fun x => do noteFrame x env; theTreesLotGoes x)) _ _ s
  refine wpAny_noted ?_
  rw [compTurn_list]
  refine wpAny_bind (wpAny_standAt (wpAny_bind (wpAny_mono (turn n s hI) (fun r s₁ h₁ => ?_) fun _ _ h' => h'.elim)))
  cases r with
  | none => exact wpAny_pure h₁
  | some v =>
    refine wpAny_bind (wpAny_mono h₁ (fun _ s₀ h₀ => ?_) fun _ _ h' => h'.elim)
    refine wpAny_bind (wpAny_mono h₀ (fun _ s₂ h₂ => wpAny_bind (wpAny_mono h₂ (fun ok s₃ h₃ => ?_) fun _ _ h' => h'.elim)) fun _ _ h' => h'.elim)
    cases ok with
    | false => exact wpAny_pure ⟨rfl, h₃⟩
    | true =>
      exact wpAny_bind (wpAny_bind (wpAny_mono h₃ (fun x s₄ h₄ => wpAny_bind (wpAny_mono h₄ (fun _ s₅ h₅ => wpAny_pure (wpAny_pure ⟨rfl, h₅⟩)) fun _ _ h' => h'.elim)) fun _ _ h' => h'.elim))
end
section
variable {X : Cx} {tn M : List Str} {scope : Scope} {tg iter elt : Expr} {ifs : List Expr} {pos : Pos} {wi : TI} {g : TG} {tc : TT} {te : TE}
abbrev lobj (us : List Value) : Obj := { cls := .type "list", data := .seq us.toArray us.length }
/-- a pinned list that the loop fills -/
theorem Inv.filled {Y : Cx} {pins : List (Addr × Obj)} {σ : St} {H : Hp} {s : Shared} {D : Addr} {us : List Value} {o' : Obj} {h' : Heap} {pl : List (Addr × Obj)} (I : Inv Y (pins ++ [(D, lobj us)] ++ pl) σ H s) (hD : Y.s₀.heap.objs.size ≤ D)
    (hc : ∀ x c, Y.env.cells.lookup x = some c → c ≠ D) (hp : ∀ p ∈ Y.pn ++ pins, p.1 ≠ D) (sb : Heap.SameBut D s.heap h') (e : h'.get? D = some o') (nd : ∀ v, o'.data ≠ .cell v) : Inv Y (pins ++ [(D, o')]) σ H { s with heap := h' } := by
  have pD := I.pin (D, lobj us) (by simp)
  have I1 : Inv Y pins σ H s := I.pins_of fun p hp => I.pin p (by simp [hp])
  have I2 : Inv Y pins σ H { s with heap := h' } := I1.turned (it := D) (t' := s.toks) (fun b o hb q => (sb.2 b hb).trans q) pD.2.1 pD.2.2.1 (.inr hD) hc hp
  refine I2.pins_of fun p hp => ?_
  rcases List.mem_append.mp hp with q | q
  · exact I2.pin p (List.mem_append_right _ q)
  · obtain rfl : p = (D, o') := List.mem_singleton.mp q
    exact ⟨e, pD.2.1, pD.2.2.1, pD.2.2.2.1, nd⟩
/-- what a use of the comprehension's value asks: the list is there, C its frame -/
def CompUse (X : Cx) (pins : List (Addr × Obj)) (σ : St) (Q : VK) (D C : Addr) (s' : Shared) : Prop :=
  ∃ H, Inv X pins σ H s' ∧ Q (.ref D) H ∧ (∃ m, s'.heap.Ns C m) ∧ FpOk X pins H C
theorem comp_run {pins : List (Addr × Obj)} {s : Shared} {σ : St} {H : Hp} {Q : VK} {RR : Value → Addr → Result → Shared → Prop} (hc : X.calm = true) (B : BlkOk X tn M scope) (hi : PI X tg iter wi)
    (hg : ∀ C s₀ H₀ ex, PG (X.block (tn ++ M) scope C s₀ H₀ ex) tg g) (ht : ∀ C s₀ H₀ ex, PTs (X.block (tn ++ M) scope C s₀ H₀ ex) ifs tc) (he : ∀ C s₀ H₀ ex, PE (X.block (tn ++ M) scope C s₀ H₀ ex) elt te)
    (I : Inv X pins σ H s) (h : tComp wi tn.length g tc te σ H Q) (hRR : ∀ D C s', CompUse X pins σ Q D C s' → RR (.ref D) C (.ok .next) s') :
    wpAny (model X.prog X.w) X.A (eval iter X.env) (fun x s₁ => wpAny (model X.prog X.w) X.A (pyIter x) (fun it s₂ => wpAny (model X.prog X.w) X.A (newList []) (fun acc s₃ =>
      wpAny (model X.prog X.w) X.A (newFunctionEnv scope X.env.globals (clos X.env.cells scope.names []) [] X.env.qual none .none (some X.env)) (fun cenv s₄ =>
        codeAny (model X.prog X.w) X.A (.compStart (.ListComp elt [⟨tg, iter, ifs, 0⟩] scope pos) 0 it acc { cenv with scope := relabel scope X.env }) (RR acc cenv.locals) s₄) X.xe s₃) X.xe s₂) X.xe s₁) X.xe s := by
  refine thn (hi pins s σ H _ I h) fun v s1 h1 => thn h1 fun itv s2 h2 => ?_
  obtain ⟨it, fp, tn', J, H2, e, I2, T, st2, f2, W, ⟨m0, w0⟩, turn⟩ := h2
  subst e
  refine wpAny_newObj_type (wpAny_newFunctionEnv B.nocell (by intro y hy; simp at hy) (fun h₁ hns₁ hsb₁ => ?_) B.kind)
  dsimp only at hns₁ hsb₁ ⊢
  generalize hH2 : s2.heap.push { cls := .type "list", dict := none, data := .seq ([] : List Value).toArray } = HH at hns₁ hsb₁ ⊢
  have hC : HH.objs.size = s2.heap.objs.size + 1 := by rw [← hH2, Heap.size_push]
  have hDC : s2.heap.objs.size ≠ HH.objs.size := by rw [hC]; exact Nat.ne_of_lt (Nat.lt_succ_self _)
  have below : ∀ b, b < s2.heap.objs.size → b ≠ HH.objs.size ∧ b ≠ s2.heap.objs.size := fun b hb => ⟨by rw [hC]; exact Nat.ne_of_lt (Nat.lt_succ_of_lt hb), Nat.ne_of_lt hb⟩
  have old : ∀ b o, s2.heap.get? b = some o → h₁.get? b = some o := fun b o e => hsb₁.extBut b o (below b (Heap.lt_size e)).1 (Heap.get?_push_of_some _ (hH2 ▸ Heap.get?_push_of_some _ e))
  have hacc : h₁.get? s2.heap.objs.size = some (lobj []) := hsb₁.extBut _ _ hDC (Heap.get?_push_of_some _ (hH2 ▸ Heap.get?_push_size _ rfl))
  have hfl : ∀ b ∈ fp, b < s2.heap.objs.size := fun b hb => let ⟨o, q, _⟩ := T.obj _ _ st2 b hb; Heap.lt_size q
  have hCle : s2.heap.objs.size ≤ HH.objs.size := by rw [hC]; exact Nat.le_succ _
  have cne : ∀ x c, (clos X.env.cells scope.names []).lookup x = some c → c ≠ s2.heap.objs.size := fun x c q => by
    have q' := clos_sub (I2.freeCells B) (fun x c z => by simp at z) x c q
    obtain ⟨v, z⟩ := I2.cell x c q'
    exact Nat.ne_of_lt z.lt
  have pne : ∀ p ∈ X.pn ++ pins, p.1 ≠ s2.heap.objs.size := fun p hp => Nat.ne_of_lt (Heap.lt_size (I2.pin p hp).1)
  have J0 := block_start (fp := fp) (h₁ := h₁) (C := HH.objs.size) (D := s2.heap.objs.size) (tk := s2.toks + ([] : List (Str × Value)).length) (oD := lobj []) I2 B f2 hfl old hCle (Nat.le_refl _) hDC ⟨_, hns₁⟩ hacc (fun v z => by cases z)
  -- what stays true of the iterator's objects through the loop
  have stat : ∀ {H' : Hp} {us : List Value}, (∀ b ∈ fp, H' b = none) → ∀ b ∈ fp, FpOk (X.block (tn ++ M) scope HH.objs.size s2 H2 fp) (pins ++ [(s2.heap.objs.size, lobj us)]) H' b := fun {H' us} hn b hb =>
    ⟨hn b hb, (J0.ok.exf b hb).1, J0.ok.exfs b hb, .inl hb, (J0.ok.exf b hb).2, fun p hp => by
      rcases List.mem_append.mp hp with q | q
      · exact (f2 b hb).2.2.2.2.2 p (List.mem_append_left _ q)
      · rcases List.mem_append.mp q with q | q
        · exact (f2 b hb).2.2.2.2.2 p (List.mem_append_right _ q)
        · obtain rfl := List.mem_singleton.mp q
          exact Ne.symm (below b (hfl b hb)).2⟩
  have loop : ∀ s₃ : Shared, s₃ = { s2 with heap := h₁, toks := s2.toks + ([] : List (Str × Value)).length } →
      codeAny (model X.prog X.w) X.A (.compLoop (.ListComp elt [⟨tg, iter, ifs, 0⟩] scope pos) 0 (.ref it) (.ref s2.heap.objs.size) (compEnvC scope (clos X.env.cells scope.names []) HH.objs.size X.env))
        (RR (.ref s2.heap.objs.size) HH.objs.size) s₃ := by
    rintro s₃ rfl
    refine compLoop_go (fun n s' => ∃ i σ' H' us vs, Inv (X.block (tn ++ M) scope HH.objs.size s2 H2 fp) (pins ++ [(s2.heap.objs.size, lobj us)]) σ' H' s' ∧ tn' i s'.heap ∧ (∀ b ∈ fp, H' b = none) ∧ Vals vs us ∧ vs.length ≤ sizeLine ∧ W i n vs σ' H') ?_ m0
      ⟨0, _, H2, [], [], J0, T.keep _ _ _ st2 (fun b _ o e => old b o e), fun b hb => (f2 b hb).1, .nil, Nat.zero_le _, w0⟩
    rintro n s3 ⟨i, σ3, H3, us, vs, I3, st3, fr3, rv, hz, w3⟩
    rcases turn i n vs σ3 H3 w3 with ⟨stop, qn⟩ | ⟨go, hlt, N, hN, step⟩
    · refine thn (T.done (X.block (tn ++ M) scope HH.objs.size s2 H2 fp) rfl rfl rfl hc i _ s3 σ3 H3 _ I3 (stat fr3) st3 stop) fun r s4 ⟨hr, I4⟩ => ?_
      subst hr
      have pD := I4.pin (s2.heap.objs.size, lobj us) (by simp)
      have IE := block_end I2 I4 f2 (Nat.le_refl _) pD.1 pD.2.1 rv hz
      refine hRR _ _ s4 ⟨_, IE, qn _ pD.2.1, let ⟨m, z, _⟩ := I4.loc; ⟨m, z⟩, ?_⟩
      exact I2.fpOk hCle (by rw [upd_ne (Ne.symm hDC)]; exact I4.free)
    · refine thn (T.item (X.block (tn ++ M) scope HH.objs.size s2 H2 fp) rfl rfl rfl hc i _ s3 σ3 H3 (fun _ _ => False) I3 (stat fr3) st3 go) fun r s4 ⟨u, hr, h4⟩ => ?_
      subst hr
      refine thn h4 fun _ s5 ⟨x, H5, I5, r5, y5, st5, fr5⟩ => ?_
      have I5' := I5.pinned (stat fr5) (T.obj _ _ st5)
      refine thn (hg HH.objs.size s2 H2 fp _ s5 σ3 H5 x u _ I5' r5 (step x H5 y5)) fun _ s6 ⟨σ6, H6, I6, q6⟩ => ?_
      refine thn (ht HH.objs.size s2 H2 fp _ s6 σ6 H6 _ I6 q6) fun ok s7 ⟨H7, I7, q7⟩ => ?_
      have keepFp : ∀ {σ' : St} {H' : Hp} {s' : Shared}, Inv (X.block (tn ++ M) scope HH.objs.size s2 H2 fp) (pins ++ [(s2.heap.objs.size, lobj us)] ++ pinsAt fp s5.heap) σ' H' s' → tn' (i + 1) s'.heap ∧ ∀ b ∈ fp, H' b = none := fun {σ' H' s'} J =>
        ⟨T.keep _ _ _ st5 fun b hb o e => (J.pin (b, o) (List.mem_append_right _ (List.mem_append_right _ (mem_pinsAt hb e)))).1, fun b hb => by
          obtain ⟨o, e, d⟩ := T.obj _ _ st5 b hb
          exact (J.pin (b, o) (List.mem_append_right _ (List.mem_append_right _ (mem_pinsAt hb e)))).2.1⟩
      cases ok with
      | false =>
        rw [if_neg Bool.false_ne_true]
        rw [if_neg Bool.false_ne_true] at q7
        obtain ⟨k', hk, w7⟩ := hN _ _ _ q7
        obtain ⟨a1, a2⟩ := keepFp I7
        exact ⟨k', hk, i + 1, σ6, H7, us, vs, I7.unpinned, a1, a2, rv, hz, w7⟩
      | true =>
        rw [if_pos rfl]
        rw [if_pos rfl] at q7
        refine thn (he HH.objs.size s2 H2 fp _ s7 σ6 H7 _ I7 q7) fun y s8 ⟨yv, H8, I8, ry, q8⟩ => ?_
        have pD := I8.pin (s2.heap.objs.size, lobj us) (by simp)
        have hl := rv.length
        refine append_at (hsz := by rw [List.size_toArray]; omega) pD.1 fun h' hs' hD' => ?_
        have eD' : h'.get? s2.heap.objs.size = some (lobj (us ++ [y])) := by
          rw [hD', List.push_toArray]
          show some ({ cls := .type "list", data := .seq (us ++ [y]).toArray (us.length + 1) } : Obj) = some (lobj (us ++ [y]))
          unfold lobj
          rw [List.length_append, List.length_singleton]
        have I9 := I8.filled (Nat.le_refl _) cne pne hs' eD' (fun v z => by cases z)
        obtain ⟨k', hk, w9⟩ := hN _ _ _ q8
        obtain ⟨a1, a2⟩ := keepFp I8
        refine ⟨k', hk, i + 1, σ6, H8, us ++ [y], vs ++ [yv], I9, T.keep _ _ _ a1 (fun b hb o e => (hs'.2 b (below b (hfl b hb)).2).trans e), a2, Vals.append rv (.cons ry .nil), ?_, w9⟩
        rw [List.length_append, List.length_singleton]
        omega
  exact codeAny_compStart_list (loop _ rfl) (T.self _ 0 _ _ _ (T.keep _ _ _ st2 fun b _ o e => old b o e) (loop _ rfl))
/-- [elt for tg in iter if ..] -/
theorem pe_comp (hc : X.calm = true) (B : BlkOk X tn M scope) (hi : PI X tg iter wi)
    (hg : ∀ C s₀ H₀ ex, PG (X.block (tn ++ M) scope C s₀ H₀ ex) tg g) (ht : ∀ C s₀ H₀ ex, PTs (X.block (tn ++ M) scope C s₀ H₀ ex) ifs tc) (he : ∀ C s₀ H₀ ex, PE (X.block (tn ++ M) scope C s₀ H₀ ex) elt te)
    (hs : ∀ x, foldedSetIterable iter X.env x = pure x := by intro _; rfl) :
    PE X (.ListComp elt [⟨tg, iter, ifs, 0⟩] scope pos) (tComp wi tn.length g tc te) := by
  intro pins s σ H Q I h
  rw [eval_ListComp]
  refine wpAny_comprehension_free (use := none) rfl hs (closureFor_clos (I.freeCells B)) B.kind B.own ?_
  refine comp_run (RR := fun acc C => compPost (model X.prog X.w) X.A X.xe none (EP X pins σ Q) acc C) hc B hi hg ht he I h fun D C s' hu => ?_
  obtain ⟨H', I', q, ⟨m, hn⟩, f0, f1, f2, f3, f4, f5⟩ := hu
  refine ⟨m, hn, fun h' hs' => ?_⟩
  exact ⟨.ref D, H', I'.turned (it := C) (t' := s'.toks) (fun b o hb e => (hs'.2 b hb).trans e) f0 f1 f3 f4 f5, rfl, q⟩
end
/-! ### the forms one uses -/
section
variable {g : TG} {tc : TT} {te : TE} {Q : VK} {σ' : St} {H : Hp}
theorem comp_list {K : PySem.W.Frag} {a : Addr} {xs : List V} (Pv : Nat → List V → St → Hp → Prop) (h0 : Pv 0 [] σ' H) (hl : ∀ i vs σ H, i ≤ xs.length → Pv i vs σ H → SqL K H a xs) (hz : xs.length ≤ sizeLine) (hn : ∀ i vs σ H, Pv i vs σ H → vs.length ≤ i)
    (hs : ∀ i x vs σ H, xs[i]? = some x → Pv i vs σ H → g x σ H fun σ2 H2 => tc σ2 H2 fun b H3 => if b = true then te σ2 H3 fun y H4 => Pv (i + 1) (vs ++ [y]) σ2 H4 else Pv (i + 1) vs σ2 H3)
    (hd : ∀ vs σ H, Pv xs.length vs σ H → ∀ p, H p = none → Q (.ref p) (upd H p (.lst vs))) :
    ∃ W : Nat → Nat → List V → St → Hp → Prop, (∃ k, W 0 k [] σ' H) ∧ ∀ i k vs σ H, W i k vs σ H →
      ((Itl K a).stop i H ∧ ∀ p, H p = none → Q (.ref p) (upd H p (.lst vs))) ∨
      ((Itl K a).go i H ∧ vs.length < sizeLine ∧ ∃ N : List V → St → Hp → Prop, (∀ vs' σ' H', N vs' σ' H' → ∃ k', k' < k ∧ W (i + 1) k' vs' σ' H') ∧
        ∀ x H', (Itl K a).yld i H x H' → g x σ H' fun σ2 H2 => tc σ2 H2 fun b H3 => if b = true then te σ2 H3 fun y H4 => N (vs ++ [y]) σ2 H4 else N vs σ2 H3) := by
  refine ⟨fun i m vs σ H => m = xs.length - i ∧ i ≤ xs.length ∧ Pv i vs σ H, ⟨xs.length, by simp, Nat.zero_le _, h0⟩, ?_⟩
  rintro i m vs σ H ⟨rfl, hi, p⟩
  have q := hl i vs σ H hi p
  by_cases hlt : i < xs.length
  · refine .inr ⟨⟨xs, xs[i], q, by simp [hlt]⟩, Nat.lt_of_le_of_lt (hn _ _ _ _ p) (Nat.lt_of_lt_of_le hlt hz), Pv (i + 1), fun vs' σ' H' p' => ⟨xs.length - (i + 1), by omega, rfl, hlt, p'⟩, fun x H' y => ?_⟩
    obtain ⟨e, y⟩ := y
    subst e
    exact hs i x vs σ _ (y xs q) p
  · have e : i = xs.length := by omega
    subst e
    exact .inl ⟨⟨xs, q, Nat.le_refl _⟩, hd vs σ H p⟩
theorem comp_range {lo : Int} {n : Nat} (Pv : Nat → List V → St → Hp → Prop) (h0 : Pv 0 [] σ' H) (hz : n ≤ sizeLine) (hn : ∀ i vs σ H, Pv i vs σ H → vs.length ≤ i)
    (hs : ∀ i vs σ H, i < n → Pv i vs σ H → g (.int (lo + i)) σ H fun σ2 H2 => tc σ2 H2 fun b H3 => if b = true then te σ2 H3 fun y H4 => Pv (i + 1) (vs ++ [y]) σ2 H4 else Pv (i + 1) vs σ2 H3)
    (hd : ∀ vs σ H, Pv n vs σ H → ∀ p, H p = none → Q (.ref p) (upd H p (.lst vs))) :
    ∃ W : Nat → Nat → List V → St → Hp → Prop, (∃ k, W 0 k [] σ' H) ∧ ∀ i k vs σ H, W i k vs σ H →
      ((Itr lo n).stop i H ∧ ∀ p, H p = none → Q (.ref p) (upd H p (.lst vs))) ∨
      ((Itr lo n).go i H ∧ vs.length < sizeLine ∧ ∃ N : List V → St → Hp → Prop, (∀ vs' σ' H', N vs' σ' H' → ∃ k', k' < k ∧ W (i + 1) k' vs' σ' H') ∧
        ∀ x H', (Itr lo n).yld i H x H' → g x σ H' fun σ2 H2 => tc σ2 H2 fun b H3 => if b = true then te σ2 H3 fun y H4 => N (vs ++ [y]) σ2 H4 else N vs σ2 H3) := by
  refine ⟨fun i m vs σ H => m = n - i ∧ i ≤ n ∧ Pv i vs σ H, ⟨n, by simp, Nat.zero_le _, h0⟩, ?_⟩
  rintro i m vs σ H ⟨rfl, hi, p⟩
  by_cases hlt : i < n
  · refine .inr ⟨hlt, Nat.lt_of_le_of_lt (hn _ _ _ _ p) (Nat.lt_of_lt_of_le hlt hz), Pv (i + 1), fun vs' σ' H' p' => ⟨n - (i + 1), by omega, rfl, hlt, p'⟩, fun x H' y => ?_⟩
    obtain ⟨e, y⟩ := y
    subst e y
    exact hs i vs σ _ hlt p
  · have e : i = n := by omega
    subst e
    exact .inl ⟨Nat.le_refl _, hd vs σ H p⟩
end
end L2
set_option Elab.async false
set_option linter.all false
set_option maxRecDepth 100000
set_option maxHeartbeats 4000000
/-! FURTHER RULES over the hand layer: calls by a def's promise, tables of the module, isinstance, sum, all, == of lists and tuples, division. -/
namespace L2
open PySem PySem.Spec PyProof.Rows
theorem nomk (b : Expr) {op : CmpOp} (h : behindInMarks op b = false := by rfl) : behindInMarks op b = false := h
/-! ### a def by its promise -/
structure Cal (P : Program) (w : World) (K : PySem.W.Frag) (mg : Str → Option Value) (base : Heap) (x : Str) (k : Nat) (ps : List Str) (sp : Sp) : Prop where
  ex : ∃ (f : Addr) (fd : FuncData), FnOk P w K mg base CX0 k f fd ps sp ∧ mg x = some (.ref f) ∧ PySem.W.keepIn K (.ref f) = true ∧ Binds K fd ps []
section
variable {X : Cx} {k : Nat} {ps : List Str} {sp : Sp} {x : Str} {p pos : Pos} {e : Expr} {es : List Expr} {t : TA}
theorem pe_callC (c : Cal X.prog X.w X.K X.mg X.base x k ps sp) (hr : Room k X.A) (ha : PA X (e :: es) t) (hg : Gl X x := by rfl)
    (hdb : (x == ("__debug__" : Str)) = false := by decide) (he : starEach (e :: es) X.env = (false, eval e X.env) :: starEach es X.env := by rfl) (hpl : (backTo pos (starEach es X.env)).any (·.1) = false := by rfl) :
    PE X (.Call (.Name x p) (e :: es) [] pos) (tCall sp [] E0 t) := by
  obtain ⟨f, fd, F, hm, hk, hb⟩ := c.ex
  exact pe_call F hr hg hm hk hb .nil pass0 ha hdb he hpl
end
/-! ### tests and values -/
section
variable {X : Cx} {a b : Expr} {ta tb : TE} {pos : Pos} {tA : TT}
end
/-! ### isinstance -/
section
variable {X : Cx}
theorem call_isinst : CallR X (.builtin "isinstance") (fun xs H Q => ∃ x y t c b, xs = [x, y] ∧ TyOf X.K H x t ∧ RelV y c ∧ PySem.W.kitOne X.K t c = some b ∧ (∀ c', RelV y c' → c' = c) ∧ Q (.bl b) H) := by
  intro pins s σ H xs us Q I r h
  obtain ⟨x, y, t, c, b, rfl, ty, ry, e, un, q⟩ := h
  obtain ⟨u, v, rfl, ru, rv⟩ := vals2 r
  obtain rfl := un v rv
  exact isinst_ok I ru ty e fun tk => ⟨.bl b, H, I.tok _, rfl, q⟩
end
section
variable {X : Cx}
theorem call_sumL (hc : X.calm = true) : CallR X (.builtin "sum") (fun xs H Q => ∃ (p : Addr) (ns : List Int), xs = [.ref p] ∧ SqL X.K H p (ns.map V.int) ∧ Q (.int ns.sum) H) := by
  intro pins s σ H xs us Q I r h
  obtain ⟨p, ns, rfl, hq, q⟩ := h
  obtain ⟨u, rfl, rx⟩ := vals1 r
  cases rx
  obtain ⟨its, rv, pl, hz⟩ := I.list hq
  have hi : IntsAre its ns := intsAre_of rv
  have hall : AllInts its.toArray := hi.allInts
  obtain ⟨ys, e⟩ := hall.items
  have hl : s.heap.IsList p (intItems ys) := by rw [← e]; exact pl.isList
  refine sum_intListG (I.ok.hd hc) hl fun h' tk t' hk => ?_
  have I1 : Inv X pins σ H { s with heap := h', toks := tk } := I.kept hk
  refine ⟨.int ns.sum, H, I1, ⟨t', ?_⟩, q⟩
  have hn : numsOf its.toArray.toList = ns := by rw [show its.toArray.toList = its from rfl, hi.numsOf]
  rw [e, nums_intItems] at hn
  rw [preSum_eq, List.take_of_length_le (by simp), hn]
end
/-! ### == and != of data -/
mutual
inductive DatV (K : PySem.W.Frag) (H : Hp) : V → PyData → Prop
  | non : DatV K H .non .none
  | bl (b : Bool) : DatV K H (.bl b) (.bool b)
  | int (i : Int) : DatV K H (.int i) (.int i)
  | str (x : Str) : DatV K H (.str x) (.str x)
  | lst {a : Addr} {xs : List V} {ds : List PyData} : SqL K H a xs → DatVs K H xs ds → DatV K H (.ref a) (.list ds)
  | tup {a : Addr} {xs : List V} {ds : List PyData} : SqT K H a xs → DatVs K H xs ds → DatV K H (.ref a) (.tuple ds)
inductive DatVs (K : PySem.W.Frag) (H : Hp) : List V → List PyData → Prop
  | nil : DatVs K H [] []
  | cons {x : V} {xs : List V} {d : PyData} {ds : List PyData} : DatV K H x d → DatVs K H xs ds → DatVs K H (x :: xs) (d :: ds)
end
section
variable {X : Cx} {pins : List (Addr × Obj)} {σ : St} {H : Hp} {s : Shared}
end
section
variable {X : Cx}
def rEqD (K : PySem.W.Frag) (neg : Bool) : R2 := fun x y H Q => ∃ d e, DatV K H x d ∧ DatV K H y e ∧ SeqAt.shaped d = true ∧ SeqAt.shaped e = true ∧ SeqAt.noMix d e = true ∧ Q (.bl (if neg = true then !same d e else same d e)) H
end
/-! ### a dict of the module, read by a key -/
def EntOk (w : World) : List DictEntry → List (Key × V) → Prop
  | [], [] => True
  | e :: es, (k, v) :: kvs => keyIs k e.key = true ∧ e.hash = keyH w k ∧ RelV v e.val ∧ EntOk w es kvs
  | _, _ => False
structure TabK (P : Program) (w : World) (K : PySem.W.Frag) (a : Addr) (kvs : List (Key × V)) : Prop where
  get : ∀ h : Heap, K.In h → ∃ vs, KV kvs vs ∧ h.DictOf (mixKind P w) a vs
theorem TabK.of {P : Program} {w : World} {K : PySem.W.Frag} {a : Addr} {es : Array DictEntry} {n : Nat} {kvs : List (Key × V)} (hl : K.lookup a = some ⟨.type "dict", none, .dict es n, #[]⟩) (he : EntOk w es.toList kvs) (nd : (kvs.map (·.1)).Nodup) : TabK P w K a kvs := by
  refine ⟨fun h X => ?_⟩
  have go : ∀ (l : List DictEntry) (kvs : List (Key × V)), EntOk w l kvs → (∀ e ∈ l, ∃ k, keyIs k e.key = true ∧ e.hash = keyH w k) ∧ ∃ vs : List (Key × Value), KV kvs vs ∧ Pairs (mixKind P w) l vs ∧ vs.map (·.1) = kvs.map (·.1) := by
    intro l
    induction l with
    | nil =>
      intro kvs h
      cases kvs with
      | nil => exact ⟨fun e he => by simp at he, [], .nil, .nil, rfl⟩
      | cons p r => exact h.elim
    | cons e es ih =>
      intro kvs h
      cases kvs with
      | nil => exact h.elim
      | cons p r =>
        obtain ⟨k, v⟩ := p
        obtain ⟨h1, h2, h3, h4⟩ := h
        obtain ⟨g1, vs, g2, g3, g4⟩ := ih r h4
        refine ⟨fun e' he' => ?_, (k, e.val) :: vs, .cons ⟨rfl, h3⟩ g2, .cons h1 rfl g3, by simp [g4]⟩
        rcases List.mem_cons.mp he' with q | q
        · rw [q]; exact ⟨k, h1, h2⟩
        · exact g1 e' q
  obtain ⟨g1, vs, g2, g3, g4⟩ := go es.toList kvs he
  exact ⟨vs, g2, _, es, n, X a _ hl, ⟨rfl, rfl, rfl⟩, rfl, fun e he' => g1 e (by simpa using he'), g3, by rw [g4]; exact nd⟩
section
variable {X : Cx} {x : Str} {p pos : Pos} {i : Expr} {ti : TE} {a : Addr} {kvs : List (Key × V)}
def tTab (kvs : List (Key × V)) (ti : TE) : TE := fun σ H Q => ti σ H fun y H1 => ∃ k v, y = kV k ∧ valV kvs k = some v ∧ Q v H1
theorem pe_tab (hm : X.mg x = some (.ref a)) (hg : Gl X x) (T : TabK X.prog X.w X.K a kvs) (hi : PE X i ti) (hs : NoSl i := by intro _ _; rfl) (hd : (x == ("__debug__" : Str)) = false := by decide) :
    PE X (.Subscript (.Name x p) i pos) (tTab kvs ti) := by
  intro pins s σ H Q I h
  refine subD_of PySem.F.slot_dict_getitem.lookup hs (ld_glob I hg hm ?_ hd)
  refine thn (hi pins s σ H _ I h) fun iv s2 ⟨y, H2, I2, ry, k, v, ey, l, q2⟩ => ?_
  subst ey
  obtain ⟨vs, rel, dd⟩ := T.get s2.heap I2.kIn
  refine ⟨dd.typeIs, ?_⟩
  obtain ⟨w', hw, rw'⟩ := RelO.some_of (v := v) (o := valueAt vs k) (by rw [← l]; exact rel.val k)
  exact wpAny_getItem_of (kV_is ry) dd.mapOf hw ⟨v, H2, I2.tok _, rw', q2⟩
end
/-! ### a, b, .. = a list of that length -/
section
variable {X : Cx} {pos : Pos}
def gLst (K : PySem.W.Frag) (n : Nat) (t : TGs) : TG := fun v σ H Q => ∃ a xs, v = .ref a ∧ SqL K H a xs ∧ xs.length = n ∧ t xs σ H Q
end
/-! ### small words for readings -/
theorem qi {Q : VK} {H : Hp} {a b : Int} (k : Q (.int a) H) (e : b = a) : Q (.int b) H := e ▸ k
theorem Same.seqT {K : PySem.W.Frag} {H H' : Hp} {a : Addr} {xs : List V} (e : Same H H') (h : SqT K H a xs) : SqT K H' a xs := by
  rcases h with (h | ⟨o, h⟩) | h
  · exact .inl (.inl (e _ _ h))
  · exact .inl (.inr ⟨o, e _ _ h⟩)
  · exact .inr h
theorem Same.upd {H : Hp} {p : Addr} {o : HO} (h : H p = none) : Same H (upd H p o) := fun b u e => by rw [upd_ne (ne_of_none e h)]; exact e
/-! ### calls by shape -/
section
variable {X : Cx}
def rLen (K : PySem.W.Frag) : List V → Hp → VK → Prop
  | [.ref p], H, Q => ∃ ys, (SqL K H p ys ∨ SqT K H p ys) ∧ Q (.int ys.length) H
  | [.str z], H, Q => z.length ≤ sizeLine ∧ Q (.int z.length) H
  | _, _, _ => False
theorem call_lenR : CallR X (.builtin "len") (rLen X.K) := by
  intro pins s σ H xs us Q I r h
  match xs, h with
  | [.ref p], ⟨ys, hq, q⟩ => exact call_len_seq pins s σ H _ us Q I r ⟨p, ys, rfl, hq, q⟩
  | [.str z], ⟨hz, q⟩ => exact call_len_str pins s σ H _ us Q I r ⟨z, rfl, hz, q⟩
def kndV : V → Option String
  | .non => some "NoneType"
  | .bl _ => some "bool"
  | .int _ => some "int"
  | .str _ => some "str"
  | _ => none
/-- isinstance(x, T), x a plain value -/
def rIsi (K : PySem.W.Frag) : List V → Hp → VK → Prop
  | [x, .ty n], H, Q => ∃ t b, kndV x = some t ∧ PySem.W.kitOne K (.type t) (.type n) = some b ∧ Q (.bl b) H
  | _, _, _ => False
theorem call_isi : CallR X (.builtin "isinstance") (rIsi X.K) := by
  intro pins s σ H xs us Q I r h
  match xs, h with
  | [x, .ty n], ⟨t, b, hk, e, q⟩ =>
    have ty : TyOf X.K H x (.type t) := by
      cases x with
      | non => cases hk; exact .non
      | bl y => cases hk; exact .bl y
      | int y => cases hk; exact .int y
      | str y => cases hk; exact .str y
      | _ => cases hk
    exact call_isinst pins s σ H _ us Q I r ⟨x, .ty n, .type t, .type n, b, rfl, ty, rfl, e, fun _ h => h, q⟩
/-- .. a list; a tuple -/
def rIsiL (K : PySem.W.Frag) : List V → Hp → VK → Prop
  | [.ref p, .ty n], H, Q => (∃ xs, SqL K H p xs) ∧ ∃ b, PySem.W.kitOne K (.type "list") (.type n) = some b ∧ Q (.bl b) H
  | _, _, _ => False
def rIsiT (K : PySem.W.Frag) : List V → Hp → VK → Prop
  | [.ref p, .ty n], H, Q => (∃ xs, SqT K H p xs) ∧ ∃ b, PySem.W.kitOne K (.type "tuple") (.type n) = some b ∧ Q (.bl b) H
  | _, _, _ => False
def rSum (K : PySem.W.Frag) : List V → Hp → VK → Prop
  | [.ref p], H, Q => ∃ ns : List Int, SqL K H p (ns.map V.int) ∧ Q (.int ns.sum) H
  | _, _, _ => False
theorem call_sumR (hc : X.calm = true) : CallR X (.builtin "sum") (rSum X.K) := by
  intro pins s σ H xs us Q I r h
  match xs, h with
  | [.ref p], ⟨ns, hq, q⟩ => exact call_sumL hc pins s σ H _ us Q I r ⟨p, ns, rfl, hq, q⟩
def rAll (K : PySem.W.Frag) : List V → Hp → VK → Prop
  | [.ref p], H, Q => ∃ bs : List Bool, SqL K H p (bs.map V.bl) ∧ Q (.bl (bs.all id)) H
  | _, _, _ => False
def rInt1 : List V → Hp → VK → Prop
  | [.int i], H, Q => Q (.int i) H
  | [.bl k], H, Q => Q (.int (if k = true then 1 else 0)) H
  | _, _, _ => False
theorem call_int1R : CallR X (.type "int") rInt1 := by
  intro pins s σ H xs us Q I r h
  match xs, h with
  | [.int i], q => exact call_int1 pins s σ H _ us Q I r (.inl ⟨i, rfl, q⟩)
  | [.bl k], q => exact call_int1 pins s σ H _ us Q I r (.inr ⟨k, rfl, q⟩)
def rListOf (K : PySem.W.Frag) : List V → Hp → VK → Prop
  | [.ref p], H, Q => ∃ ys, (SqL K H p ys ∨ SqT K H p ys) ∧ ∀ l, H l = none → Q (.ref l) (upd H l (.lst ys))
  | _, _, _ => False
def rStrI : List V → Hp → VK → Prop
  | [.int i], H, Q => i.natAbs.log2 < 1920 ∧ Q (.str (toString i)) H
  | _, _, _ => False
end
theorem kit_int_int {K : PySem.W.Frag} : PySem.W.kitOne K (.type "int") (.type "int") = some true := by rfl
theorem kit_int_bool {K : PySem.W.Frag} : PySem.W.kitOne K (.type "int") (.type "bool") = some false := by rfl
theorem kit_tup_tup {K : PySem.W.Frag} : PySem.W.kitOne K (.type "tuple") (.type "tuple") = some true := by rfl
theorem kit_list_list {K : PySem.W.Frag} : PySem.W.kitOne K (.type "list") (.type "list") = some true := by rfl
theorem kit_str_str {K : PySem.W.Frag} : PySem.W.kitOne K (.type "str") (.type "str") = some true := by rfl
theorem calOf {P : Program} {w : World} {K : PySem.W.Frag} {mg : Str → Option Value} {base : Heap} {x : Str} {k : Nat} {ps : List Str} {sp : Sp} {f : Addr} {fd : FuncData} (h : FnOk P w K mg base CX0 k f fd ps sp) (hm : mg x = some (.ref f)) (hk : PySem.W.keepIn K (.ref f) = true) (hb : Binds K fd ps []) : Cal P w K mg base x k ps sp := ⟨f, fd, h, hm, hk, hb⟩
/-! ### a if t else b, a and b written numbers: one value -/
section
variable {X : Cx} {c : Expr} {tA : TT} {a b : Int} {j j' : Nat} {p p' pos : Pos}
def tIfC (t : TT) (a b : Int) : TE := fun σ H Q => t σ H fun c H1 => Q (.int (if c = true then a else b)) H1
end
/-! ### the built-in names -/
theorem bb_len : bootBuiltins "len" = some (.builtin "len") := by decide +kernel
theorem bb_isinstance : bootBuiltins "isinstance" = some (.builtin "isinstance") := by decide +kernel
theorem bb_sum : bootBuiltins "sum" = some (.builtin "sum") := by decide +kernel
theorem bb_int : bootBuiltins "int" = some (.type "int") := by decide +kernel
theorem bb_bool : bootBuiltins "bool" = some (.type "bool") := by decide +kernel
theorem iteN {c A B : Prop} [Decidable c] (h : ¬ c) (b : B) : if c then A else B := by rw [if_neg h]; exact b
end L2
set_option Elab.async false
set_option linter.all false
set_option maxRecDepth 100000
set_option maxHeartbeats 4000000
/-! A READING WORKED OFF FROM ITS HEAD: each row rewrites the transformer that stands foremost; «simp only» by these rows (as pre-rows) leaves the conditions alone. -/
namespace L2
open PySem PySem.Spec PyProof.Rows
namespace Rd
section
variable {D : Ends} {σ : St} {H : Hp} {Q : VK} {QB : Bool → Hp → Prop} {QA : List V → Hp → Prop} {QS : St → Hp → Prop}
theorem v0 {v : V} {r : St} : tVar 0 (some v :: r) H Q = Q v H := propext ⟨fun ⟨_, e, q⟩ => by cases e; exact q, fun q => ⟨v, rfl, q⟩⟩
theorem g0 {b : Option V} {v : V} {r : St} : gName 0 v (b :: r) H QS = QS (some v :: r) H := rfl
theorem v1 {a0 : Option V} {v : V} {r : St} : tVar 1 (a0 :: some v :: r) H Q = Q v H := propext ⟨fun ⟨_, e, q⟩ => by cases e; exact q, fun q => ⟨v, rfl, q⟩⟩
theorem g1 {a0 b : Option V} {v : V} {r : St} : gName 1 v (a0 :: b :: r) H QS = QS (a0 :: some v :: r) H := rfl
theorem v2 {a0 a1 : Option V} {v : V} {r : St} : tVar 2 (a0 :: a1 :: some v :: r) H Q = Q v H := propext ⟨fun ⟨_, e, q⟩ => by cases e; exact q, fun q => ⟨v, rfl, q⟩⟩
theorem g2 {a0 a1 b : Option V} {v : V} {r : St} : gName 2 v (a0 :: a1 :: b :: r) H QS = QS (a0 :: a1 :: some v :: r) H := rfl
theorem v3 {a0 a1 a2 : Option V} {v : V} {r : St} : tVar 3 (a0 :: a1 :: a2 :: some v :: r) H Q = Q v H := propext ⟨fun ⟨_, e, q⟩ => by cases e; exact q, fun q => ⟨v, rfl, q⟩⟩
theorem g3 {a0 a1 a2 b : Option V} {v : V} {r : St} : gName 3 v (a0 :: a1 :: a2 :: b :: r) H QS = QS (a0 :: a1 :: a2 :: some v :: r) H := rfl
theorem v4 {a0 a1 a2 a3 : Option V} {v : V} {r : St} : tVar 4 (a0 :: a1 :: a2 :: a3 :: some v :: r) H Q = Q v H := propext ⟨fun ⟨_, e, q⟩ => by cases e; exact q, fun q => ⟨v, rfl, q⟩⟩
theorem g4 {a0 a1 a2 a3 b : Option V} {v : V} {r : St} : gName 4 v (a0 :: a1 :: a2 :: a3 :: b :: r) H QS = QS (a0 :: a1 :: a2 :: a3 :: some v :: r) H := rfl
theorem v5 {a0 a1 a2 a3 a4 : Option V} {v : V} {r : St} : tVar 5 (a0 :: a1 :: a2 :: a3 :: a4 :: some v :: r) H Q = Q v H := propext ⟨fun ⟨_, e, q⟩ => by cases e; exact q, fun q => ⟨v, rfl, q⟩⟩
theorem g5 {a0 a1 a2 a3 a4 b : Option V} {v : V} {r : St} : gName 5 v (a0 :: a1 :: a2 :: a3 :: a4 :: b :: r) H QS = QS (a0 :: a1 :: a2 :: a3 :: a4 :: some v :: r) H := rfl
theorem v6 {a0 a1 a2 a3 a4 a5 : Option V} {v : V} {r : St} : tVar 6 (a0 :: a1 :: a2 :: a3 :: a4 :: a5 :: some v :: r) H Q = Q v H := propext ⟨fun ⟨_, e, q⟩ => by cases e; exact q, fun q => ⟨v, rfl, q⟩⟩
theorem g6 {a0 a1 a2 a3 a4 a5 b : Option V} {v : V} {r : St} : gName 6 v (a0 :: a1 :: a2 :: a3 :: a4 :: a5 :: b :: r) H QS = QS (a0 :: a1 :: a2 :: a3 :: a4 :: a5 :: some v :: r) H := rfl
theorem v7 {a0 a1 a2 a3 a4 a5 a6 : Option V} {v : V} {r : St} : tVar 7 (a0 :: a1 :: a2 :: a3 :: a4 :: a5 :: a6 :: some v :: r) H Q = Q v H := propext ⟨fun ⟨_, e, q⟩ => by cases e; exact q, fun q => ⟨v, rfl, q⟩⟩
theorem g7 {a0 a1 a2 a3 a4 a5 a6 b : Option V} {v : V} {r : St} : gName 7 v (a0 :: a1 :: a2 :: a3 :: a4 :: a5 :: a6 :: b :: r) H QS = QS (a0 :: a1 :: a2 :: a3 :: a4 :: a5 :: a6 :: some v :: r) H := rfl
theorem v8 {a0 a1 a2 a3 a4 a5 a6 a7 : Option V} {v : V} {r : St} : tVar 8 (a0 :: a1 :: a2 :: a3 :: a4 :: a5 :: a6 :: a7 :: some v :: r) H Q = Q v H := propext ⟨fun ⟨_, e, q⟩ => by cases e; exact q, fun q => ⟨v, rfl, q⟩⟩
theorem g8 {a0 a1 a2 a3 a4 a5 a6 a7 b : Option V} {v : V} {r : St} : gName 8 v (a0 :: a1 :: a2 :: a3 :: a4 :: a5 :: a6 :: a7 :: b :: r) H QS = QS (a0 :: a1 :: a2 :: a3 :: a4 :: a5 :: a6 :: a7 :: some v :: r) H := rfl
theorem v9 {a0 a1 a2 a3 a4 a5 a6 a7 a8 : Option V} {v : V} {r : St} : tVar 9 (a0 :: a1 :: a2 :: a3 :: a4 :: a5 :: a6 :: a7 :: a8 :: some v :: r) H Q = Q v H := propext ⟨fun ⟨_, e, q⟩ => by cases e; exact q, fun q => ⟨v, rfl, q⟩⟩
theorem g9 {a0 a1 a2 a3 a4 a5 a6 a7 a8 b : Option V} {v : V} {r : St} : gName 9 v (a0 :: a1 :: a2 :: a3 :: a4 :: a5 :: a6 :: a7 :: a8 :: b :: r) H QS = QS (a0 :: a1 :: a2 :: a3 :: a4 :: a5 :: a6 :: a7 :: a8 :: some v :: r) H := rfl
theorem v10 {a0 a1 a2 a3 a4 a5 a6 a7 a8 a9 : Option V} {v : V} {r : St} : tVar 10 (a0 :: a1 :: a2 :: a3 :: a4 :: a5 :: a6 :: a7 :: a8 :: a9 :: some v :: r) H Q = Q v H := propext ⟨fun ⟨_, e, q⟩ => by cases e; exact q, fun q => ⟨v, rfl, q⟩⟩
theorem g10 {a0 a1 a2 a3 a4 a5 a6 a7 a8 a9 b : Option V} {v : V} {r : St} : gName 10 v (a0 :: a1 :: a2 :: a3 :: a4 :: a5 :: a6 :: a7 :: a8 :: a9 :: b :: r) H QS = QS (a0 :: a1 :: a2 :: a3 :: a4 :: a5 :: a6 :: a7 :: a8 :: a9 :: some v :: r) H := rfl
theorem v11 {a0 a1 a2 a3 a4 a5 a6 a7 a8 a9 a10 : Option V} {v : V} {r : St} : tVar 11 (a0 :: a1 :: a2 :: a3 :: a4 :: a5 :: a6 :: a7 :: a8 :: a9 :: a10 :: some v :: r) H Q = Q v H := propext ⟨fun ⟨_, e, q⟩ => by cases e; exact q, fun q => ⟨v, rfl, q⟩⟩
theorem g11 {a0 a1 a2 a3 a4 a5 a6 a7 a8 a9 a10 b : Option V} {v : V} {r : St} : gName 11 v (a0 :: a1 :: a2 :: a3 :: a4 :: a5 :: a6 :: a7 :: a8 :: a9 :: a10 :: b :: r) H QS = QS (a0 :: a1 :: a2 :: a3 :: a4 :: a5 :: a6 :: a7 :: a8 :: a9 :: a10 :: some v :: r) H := rfl
theorem v12 {a0 a1 a2 a3 a4 a5 a6 a7 a8 a9 a10 a11 : Option V} {v : V} {r : St} : tVar 12 (a0 :: a1 :: a2 :: a3 :: a4 :: a5 :: a6 :: a7 :: a8 :: a9 :: a10 :: a11 :: some v :: r) H Q = Q v H := propext ⟨fun ⟨_, e, q⟩ => by cases e; exact q, fun q => ⟨v, rfl, q⟩⟩
theorem g12 {a0 a1 a2 a3 a4 a5 a6 a7 a8 a9 a10 a11 b : Option V} {v : V} {r : St} : gName 12 v (a0 :: a1 :: a2 :: a3 :: a4 :: a5 :: a6 :: a7 :: a8 :: a9 :: a10 :: a11 :: b :: r) H QS = QS (a0 :: a1 :: a2 :: a3 :: a4 :: a5 :: a6 :: a7 :: a8 :: a9 :: a10 :: a11 :: some v :: r) H := rfl
theorem v13 {a0 a1 a2 a3 a4 a5 a6 a7 a8 a9 a10 a11 a12 : Option V} {v : V} {r : St} : tVar 13 (a0 :: a1 :: a2 :: a3 :: a4 :: a5 :: a6 :: a7 :: a8 :: a9 :: a10 :: a11 :: a12 :: some v :: r) H Q = Q v H := propext ⟨fun ⟨_, e, q⟩ => by cases e; exact q, fun q => ⟨v, rfl, q⟩⟩
theorem g13 {a0 a1 a2 a3 a4 a5 a6 a7 a8 a9 a10 a11 a12 b : Option V} {v : V} {r : St} : gName 13 v (a0 :: a1 :: a2 :: a3 :: a4 :: a5 :: a6 :: a7 :: a8 :: a9 :: a10 :: a11 :: a12 :: b :: r) H QS = QS (a0 :: a1 :: a2 :: a3 :: a4 :: a5 :: a6 :: a7 :: a8 :: a9 :: a10 :: a11 :: a12 :: some v :: r) H := rfl
theorem v14 {a0 a1 a2 a3 a4 a5 a6 a7 a8 a9 a10 a11 a12 a13 : Option V} {v : V} {r : St} : tVar 14 (a0 :: a1 :: a2 :: a3 :: a4 :: a5 :: a6 :: a7 :: a8 :: a9 :: a10 :: a11 :: a12 :: a13 :: some v :: r) H Q = Q v H := propext ⟨fun ⟨_, e, q⟩ => by cases e; exact q, fun q => ⟨v, rfl, q⟩⟩
theorem g14 {a0 a1 a2 a3 a4 a5 a6 a7 a8 a9 a10 a11 a12 a13 b : Option V} {v : V} {r : St} : gName 14 v (a0 :: a1 :: a2 :: a3 :: a4 :: a5 :: a6 :: a7 :: a8 :: a9 :: a10 :: a11 :: a12 :: a13 :: b :: r) H QS = QS (a0 :: a1 :: a2 :: a3 :: a4 :: a5 :: a6 :: a7 :: a8 :: a9 :: a10 :: a11 :: a12 :: a13 :: some v :: r) H := rfl
theorem v15 {a0 a1 a2 a3 a4 a5 a6 a7 a8 a9 a10 a11 a12 a13 a14 : Option V} {v : V} {r : St} : tVar 15 (a0 :: a1 :: a2 :: a3 :: a4 :: a5 :: a6 :: a7 :: a8 :: a9 :: a10 :: a11 :: a12 :: a13 :: a14 :: some v :: r) H Q = Q v H := propext ⟨fun ⟨_, e, q⟩ => by cases e; exact q, fun q => ⟨v, rfl, q⟩⟩
theorem g15 {a0 a1 a2 a3 a4 a5 a6 a7 a8 a9 a10 a11 a12 a13 a14 b : Option V} {v : V} {r : St} : gName 15 v (a0 :: a1 :: a2 :: a3 :: a4 :: a5 :: a6 :: a7 :: a8 :: a9 :: a10 :: a11 :: a12 :: a13 :: a14 :: b :: r) H QS = QS (a0 :: a1 :: a2 :: a3 :: a4 :: a5 :: a6 :: a7 :: a8 :: a9 :: a10 :: a11 :: a12 :: a13 :: a14 :: some v :: r) H := rfl
theorem v16 {a0 a1 a2 a3 a4 a5 a6 a7 a8 a9 a10 a11 a12 a13 a14 a15 : Option V} {v : V} {r : St} : tVar 16 (a0 :: a1 :: a2 :: a3 :: a4 :: a5 :: a6 :: a7 :: a8 :: a9 :: a10 :: a11 :: a12 :: a13 :: a14 :: a15 :: some v :: r) H Q = Q v H := propext ⟨fun ⟨_, e, q⟩ => by cases e; exact q, fun q => ⟨v, rfl, q⟩⟩
theorem g16 {a0 a1 a2 a3 a4 a5 a6 a7 a8 a9 a10 a11 a12 a13 a14 a15 b : Option V} {v : V} {r : St} : gName 16 v (a0 :: a1 :: a2 :: a3 :: a4 :: a5 :: a6 :: a7 :: a8 :: a9 :: a10 :: a11 :: a12 :: a13 :: a14 :: a15 :: b :: r) H QS = QS (a0 :: a1 :: a2 :: a3 :: a4 :: a5 :: a6 :: a7 :: a8 :: a9 :: a10 :: a11 :: a12 :: a13 :: a14 :: a15 :: some v :: r) H := rfl
theorem v17 {a0 a1 a2 a3 a4 a5 a6 a7 a8 a9 a10 a11 a12 a13 a14 a15 a16 : Option V} {v : V} {r : St} : tVar 17 (a0 :: a1 :: a2 :: a3 :: a4 :: a5 :: a6 :: a7 :: a8 :: a9 :: a10 :: a11 :: a12 :: a13 :: a14 :: a15 :: a16 :: some v :: r) H Q = Q v H := propext ⟨fun ⟨_, e, q⟩ => by cases e; exact q, fun q => ⟨v, rfl, q⟩⟩
theorem g17 {a0 a1 a2 a3 a4 a5 a6 a7 a8 a9 a10 a11 a12 a13 a14 a15 a16 b : Option V} {v : V} {r : St} : gName 17 v (a0 :: a1 :: a2 :: a3 :: a4 :: a5 :: a6 :: a7 :: a8 :: a9 :: a10 :: a11 :: a12 :: a13 :: a14 :: a15 :: a16 :: b :: r) H QS = QS (a0 :: a1 :: a2 :: a3 :: a4 :: a5 :: a6 :: a7 :: a8 :: a9 :: a10 :: a11 :: a12 :: a13 :: a14 :: a15 :: a16 :: some v :: r) H := rfl
theorem v18 {a0 a1 a2 a3 a4 a5 a6 a7 a8 a9 a10 a11 a12 a13 a14 a15 a16 a17 : Option V} {v : V} {r : St} : tVar 18 (a0 :: a1 :: a2 :: a3 :: a4 :: a5 :: a6 :: a7 :: a8 :: a9 :: a10 :: a11 :: a12 :: a13 :: a14 :: a15 :: a16 :: a17 :: some v :: r) H Q = Q v H := propext ⟨fun ⟨_, e, q⟩ => by cases e; exact q, fun q => ⟨v, rfl, q⟩⟩
theorem g18 {a0 a1 a2 a3 a4 a5 a6 a7 a8 a9 a10 a11 a12 a13 a14 a15 a16 a17 b : Option V} {v : V} {r : St} : gName 18 v (a0 :: a1 :: a2 :: a3 :: a4 :: a5 :: a6 :: a7 :: a8 :: a9 :: a10 :: a11 :: a12 :: a13 :: a14 :: a15 :: a16 :: a17 :: b :: r) H QS = QS (a0 :: a1 :: a2 :: a3 :: a4 :: a5 :: a6 :: a7 :: a8 :: a9 :: a10 :: a11 :: a12 :: a13 :: a14 :: a15 :: a16 :: a17 :: some v :: r) H := rfl
theorem v19 {a0 a1 a2 a3 a4 a5 a6 a7 a8 a9 a10 a11 a12 a13 a14 a15 a16 a17 a18 : Option V} {v : V} {r : St} : tVar 19 (a0 :: a1 :: a2 :: a3 :: a4 :: a5 :: a6 :: a7 :: a8 :: a9 :: a10 :: a11 :: a12 :: a13 :: a14 :: a15 :: a16 :: a17 :: a18 :: some v :: r) H Q = Q v H := propext ⟨fun ⟨_, e, q⟩ => by cases e; exact q, fun q => ⟨v, rfl, q⟩⟩
theorem g19 {a0 a1 a2 a3 a4 a5 a6 a7 a8 a9 a10 a11 a12 a13 a14 a15 a16 a17 a18 b : Option V} {v : V} {r : St} : gName 19 v (a0 :: a1 :: a2 :: a3 :: a4 :: a5 :: a6 :: a7 :: a8 :: a9 :: a10 :: a11 :: a12 :: a13 :: a14 :: a15 :: a16 :: a17 :: a18 :: b :: r) H QS = QS (a0 :: a1 :: a2 :: a3 :: a4 :: a5 :: a6 :: a7 :: a8 :: a9 :: a10 :: a11 :: a12 :: a13 :: a14 :: a15 :: a16 :: a17 :: a18 :: some v :: r) H := rfl
theorem v20 {a0 a1 a2 a3 a4 a5 a6 a7 a8 a9 a10 a11 a12 a13 a14 a15 a16 a17 a18 a19 : Option V} {v : V} {r : St} : tVar 20 (a0 :: a1 :: a2 :: a3 :: a4 :: a5 :: a6 :: a7 :: a8 :: a9 :: a10 :: a11 :: a12 :: a13 :: a14 :: a15 :: a16 :: a17 :: a18 :: a19 :: some v :: r) H Q = Q v H := propext ⟨fun ⟨_, e, q⟩ => by cases e; exact q, fun q => ⟨v, rfl, q⟩⟩
theorem g20 {a0 a1 a2 a3 a4 a5 a6 a7 a8 a9 a10 a11 a12 a13 a14 a15 a16 a17 a18 a19 b : Option V} {v : V} {r : St} : gName 20 v (a0 :: a1 :: a2 :: a3 :: a4 :: a5 :: a6 :: a7 :: a8 :: a9 :: a10 :: a11 :: a12 :: a13 :: a14 :: a15 :: a16 :: a17 :: a18 :: a19 :: b :: r) H QS = QS (a0 :: a1 :: a2 :: a3 :: a4 :: a5 :: a6 :: a7 :: a8 :: a9 :: a10 :: a11 :: a12 :: a13 :: a14 :: a15 :: a16 :: a17 :: a18 :: a19 :: some v :: r) H := rfl
theorem v21 {a0 a1 a2 a3 a4 a5 a6 a7 a8 a9 a10 a11 a12 a13 a14 a15 a16 a17 a18 a19 a20 : Option V} {v : V} {r : St} : tVar 21 (a0 :: a1 :: a2 :: a3 :: a4 :: a5 :: a6 :: a7 :: a8 :: a9 :: a10 :: a11 :: a12 :: a13 :: a14 :: a15 :: a16 :: a17 :: a18 :: a19 :: a20 :: some v :: r) H Q = Q v H := propext ⟨fun ⟨_, e, q⟩ => by cases e; exact q, fun q => ⟨v, rfl, q⟩⟩
theorem g21 {a0 a1 a2 a3 a4 a5 a6 a7 a8 a9 a10 a11 a12 a13 a14 a15 a16 a17 a18 a19 a20 b : Option V} {v : V} {r : St} : gName 21 v (a0 :: a1 :: a2 :: a3 :: a4 :: a5 :: a6 :: a7 :: a8 :: a9 :: a10 :: a11 :: a12 :: a13 :: a14 :: a15 :: a16 :: a17 :: a18 :: a19 :: a20 :: b :: r) H QS = QS (a0 :: a1 :: a2 :: a3 :: a4 :: a5 :: a6 :: a7 :: a8 :: a9 :: a10 :: a11 :: a12 :: a13 :: a14 :: a15 :: a16 :: a17 :: a18 :: a19 :: a20 :: some v :: r) H := rfl
theorem v22 {a0 a1 a2 a3 a4 a5 a6 a7 a8 a9 a10 a11 a12 a13 a14 a15 a16 a17 a18 a19 a20 a21 : Option V} {v : V} {r : St} : tVar 22 (a0 :: a1 :: a2 :: a3 :: a4 :: a5 :: a6 :: a7 :: a8 :: a9 :: a10 :: a11 :: a12 :: a13 :: a14 :: a15 :: a16 :: a17 :: a18 :: a19 :: a20 :: a21 :: some v :: r) H Q = Q v H := propext ⟨fun ⟨_, e, q⟩ => by cases e; exact q, fun q => ⟨v, rfl, q⟩⟩
theorem g22 {a0 a1 a2 a3 a4 a5 a6 a7 a8 a9 a10 a11 a12 a13 a14 a15 a16 a17 a18 a19 a20 a21 b : Option V} {v : V} {r : St} : gName 22 v (a0 :: a1 :: a2 :: a3 :: a4 :: a5 :: a6 :: a7 :: a8 :: a9 :: a10 :: a11 :: a12 :: a13 :: a14 :: a15 :: a16 :: a17 :: a18 :: a19 :: a20 :: a21 :: b :: r) H QS = QS (a0 :: a1 :: a2 :: a3 :: a4 :: a5 :: a6 :: a7 :: a8 :: a9 :: a10 :: a11 :: a12 :: a13 :: a14 :: a15 :: a16 :: a17 :: a18 :: a19 :: a20 :: a21 :: some v :: r) H := rfl
theorem v23 {a0 a1 a2 a3 a4 a5 a6 a7 a8 a9 a10 a11 a12 a13 a14 a15 a16 a17 a18 a19 a20 a21 a22 : Option V} {v : V} {r : St} : tVar 23 (a0 :: a1 :: a2 :: a3 :: a4 :: a5 :: a6 :: a7 :: a8 :: a9 :: a10 :: a11 :: a12 :: a13 :: a14 :: a15 :: a16 :: a17 :: a18 :: a19 :: a20 :: a21 :: a22 :: some v :: r) H Q = Q v H := propext ⟨fun ⟨_, e, q⟩ => by cases e; exact q, fun q => ⟨v, rfl, q⟩⟩
theorem g23 {a0 a1 a2 a3 a4 a5 a6 a7 a8 a9 a10 a11 a12 a13 a14 a15 a16 a17 a18 a19 a20 a21 a22 b : Option V} {v : V} {r : St} : gName 23 v (a0 :: a1 :: a2 :: a3 :: a4 :: a5 :: a6 :: a7 :: a8 :: a9 :: a10 :: a11 :: a12 :: a13 :: a14 :: a15 :: a16 :: a17 :: a18 :: a19 :: a20 :: a21 :: a22 :: b :: r) H QS = QS (a0 :: a1 :: a2 :: a3 :: a4 :: a5 :: a6 :: a7 :: a8 :: a9 :: a10 :: a11 :: a12 :: a13 :: a14 :: a15 :: a16 :: a17 :: a18 :: a19 :: a20 :: a21 :: a22 :: some v :: r) H := rfl
def isB (QB : Bool → Hp → Prop) : VK := fun x H => ∃ k, x = .bl k ∧ QB k H
theorem isB_bl {k : Bool} : isB QB (.bl k) H = QB k H := propext ⟨fun ⟨_, e, q⟩ => by cases e; exact q, fun q => ⟨k, rfl, q⟩⟩
theorem cxK {CX : CXT} {P : Program} {w : World} {K : PySem.W.Frag} {mg : Str → Option Value} {base : Heap} {N : List Str} {qual : Str} {scope : Scope} {f : Addr} {cd : Value} {A : Around} {outer : List Env} {s : Shared} {E : XK} : (cxOf CX P w K mg base N qual scope f cd A outer s H E).K = K := rfl
theorem nab10 : Int.natAbs 10 = 10 := rfl
theorem nab2 : Int.natAbs 2 = 2 := rfl
theorem seq {t u : TS} : tSeq t u D σ H = t { D with nx := u D } σ H := rfl
theorem nxt : tNext D σ H = D.nx σ H := rfl
theorem brk : tBreak D σ H = D.bk σ H := rfl
theorem cnt : tCont D σ H = D.ct σ H := rfl
theorem drp {te : TE} : tDrop te D σ H = te σ H fun _ H1 => D.nx σ H1 := rfl
theorem ret {te : TE} : tRet te D σ H = te σ H D.rt := rfl
theorem retN : tRetN D σ H = D.rt .non H := rfl
theorem ifS {c : TT} {t u : TS} : tIfS c t u D σ H = c σ H fun b H1 => if b = true then t D σ H1 else u D σ H1 := rfl
theorem asg {te : TE} {g : TG} : tAsg te g D σ H = te σ H fun x H1 => g x σ H1 D.nx := rfl
theorem cst {v : V} : tC v σ H Q = Q v H := rfl
theorem op {r : R2} {ta tb : TE} : tOp r ta tb σ H Q = ta σ H fun x H1 => tb σ H1 fun y H2 => r x y H2 Q := rfl
theorem I0 {g : Int → Int → V} {i j : Int} : rI0 g (.int i) (.int j) H Q = Q (g i j) H := propext ⟨fun ⟨_, _, e, f, q⟩ => by cases e; cases f; exact q, fun q => ⟨i, j, rfl, rfl, q⟩⟩
theorem I1 {C : Int → Int → Prop} {g : Int → Int → V} {i j : Int} : rI C g (.int i) (.int j) H Q = (C i j ∧ Q (g i j) H) := propext ⟨fun ⟨_, _, e, f, c, q⟩ => by cases e; cases f; exact ⟨c, q⟩, fun ⟨c, q⟩ => ⟨i, j, rfl, rfl, c, q⟩⟩
theorem eqI {i j : Int} : rEq (.int i) (.int j) H Q = Q (.bl (decide (i = j))) H := by
  unfold rEq; simp [scal, V.int.injEq]
theorem neI {i j : Int} : rNe (.int i) (.int j) H Q = Q (.bl (!decide (i = j))) H := by
  unfold rNe; simp [scal, V.int.injEq]
theorem eqS {i j : Str} : rEq (.str i) (.str j) H Q = Q (.bl (decide (i = j))) H := by
  unfold rEq; simp [scal, V.str.injEq]
theorem neS {i j : Str} : rNe (.str i) (.str j) H Q = Q (.bl (!decide (i = j))) H := by
  unfold rNe; simp [scal, V.str.injEq]
theorem eqB {i j : Bool} : rEq (.bl i) (.bl j) H Q = Q (.bl (decide (i = j))) H := by
  unfold rEq; simp [scal, V.bl.injEq]
theorem neB {i j : Bool} : rNe (.bl i) (.bl j) H Q = Q (.bl (!decide (i = j))) H := by
  unfold rNe; simp [scal, V.bl.injEq]
theorem un {r : V → Hp → VK → Prop} {ta : TE} : tUn r ta σ H Q = ta σ H fun x H1 => r x H1 Q := rfl
theorem U {g : Int → V} {i : Int} : rU g (.int i) H Q = Q (g i) H := propext ⟨fun ⟨_, e, q⟩ => by cases e; exact q, fun q => ⟨i, rfl, q⟩⟩
theorem tst {t : TE} : tTest t σ H QB = t σ H (isB QB) := rfl
theorem tb {t : TE} : tB t σ H QB = t σ H (isB QB) := rfl
theorem and {t u : TT} : tAnd t u σ H QB = t σ H fun c H1 => if c = true then u σ H1 QB else QB false H1 := rfl
theorem or {t u : TT} : tOr t u σ H QB = t σ H fun c H1 => if c = true then QB true H1 else u σ H1 QB := rfl
theorem not {t : TT} : tNot t σ H QB = t σ H fun c H1 => QB (!c) H1 := rfl
theorem andV {ta tb : TE} : tAndV ta tb σ H Q = ta σ H (isB fun c H1 => if c = true then tb σ H1 Q else Q (.bl false) H1) := rfl
theorem orV {ta tb : TE} : tOrV ta tb σ H Q = ta σ H (isB fun c H1 => if c = true then Q (.bl true) H1 else tb σ H1 Q) := rfl
theorem notV {ta : TE} : tNotV ta σ H Q = ta σ H (isB fun c H1 => Q (.bl (!c)) H1) := rfl
theorem tif {t : TT} {ta tb : TE} : tIf t ta tb σ H Q = t σ H fun c H1 => if c = true then ta σ H1 Q else tb σ H1 Q := rfl
theorem tifC {t : TT} {a b : Int} : tIfC t a b σ H Q = t σ H fun c H1 => Q (.int (if c = true then a else b)) H1 := rfl
theorem chn {r r' : R2} {ta tb tc : TE} : tChain r r' ta tb tc σ H Q = ta σ H fun x H1 => tb σ H1 fun y H2 => r x y H2 (isB fun k H3 => if k = true then tc σ H3 fun w' H4 => r' y w' H4 Q else Q (.bl false) H3) := rfl
theorem nil : tNil σ H QA = QA [] H := rfl
theorem cons {ta : TE} {tr : TA} : tCons ta tr σ H QA = ta σ H fun x H1 => tr σ H1 fun xs H2 => QA (x :: xs) H2 := rfl
theorem cb {r : List V → Hp → VK → Prop} {t : TA} : tCB r t σ H Q = t σ H fun vs H1 => r vs H1 Q := rfl
theorem call {sp : Sp} {E : XK} {t : TA} : tCall sp [] E t σ H Q = t σ H fun vs H1 => sp vs H1 Q E := by unfold tCall; simp only [List.append_nil]
theorem lst {t : TA} : tLst t σ H Q = t σ H fun xs H1 => xs.length ≤ sizeLine ∧ ∀ p, H1 p = none → Q (.ref p) (upd H1 p (.lst xs)) := rfl
theorem tup {t : TA} : tTup t σ H Q = t σ H fun xs H1 => xs.length ≤ sizeLine ∧ ∀ p, H1 p = none → Q (.ref p) (upd H1 p (.tup xs)) := rfl
def tabQ (kvs : List (Key × V)) (Q : VK) : VK := fun y H1 => ∃ k v, y = kV k ∧ valV kvs k = some v ∧ Q v H1
theorem tabE {kvs : List (Key × V)} {ti : TE} : tTab kvs ti σ H Q = ti σ H (tabQ kvs Q) := rfl
theorem tabI {kvs : List (Key × V)} {i : Int} : tabQ kvs Q (.int i) H = ∃ v, valV kvs (.inl i) = some v ∧ Q v H := propext ⟨fun ⟨k, v, e, l, q⟩ => match k, e, l with
  | .inl _, rfl, l => ⟨v, l, q⟩, fun ⟨v, l, q⟩ => ⟨.inl i, v, rfl, l, q⟩⟩
theorem tabS {kvs : List (Key × V)} {i : Str} : tabQ kvs Q (.str i) H = ∃ v, valV kvs (.inr i) = some v ∧ Q v H := propext ⟨fun ⟨k, v, e, l, q⟩ => match k, e, l with
  | .inr _, rfl, l => ⟨v, l, q⟩, fun ⟨v, l, q⟩ => ⟨.inr i, v, rfl, l, q⟩⟩
theorem ixL {K : PySem.W.Frag} {p : Addr} {i : Int} : rIxL K (.ref p) (.int i) H Q = ∃ xs v, SqL K H p xs ∧ atI xs i = some v ∧ Q v H := propext ⟨fun ⟨_, xs, _, v, e, f, a, b, q⟩ => by cases e; cases f; exact ⟨xs, v, a, b, q⟩, fun ⟨xs, v, a, b, q⟩ => ⟨p, xs, i, v, rfl, rfl, a, b, q⟩⟩
theorem ixT {K : PySem.W.Frag} {p : Addr} {i : Int} : rIxT K (.ref p) (.int i) H Q = ∃ xs v, SqT K H p xs ∧ atI xs i = some v ∧ Q v H := propext ⟨fun ⟨_, xs, _, v, e, f, a, b, q⟩ => by cases e; cases f; exact ⟨xs, v, a, b, q⟩, fun ⟨xs, v, a, b, q⟩ => ⟨p, xs, i, v, rfl, rfl, a, b, q⟩⟩
theorem slc {r : V → Option Int → Option Int → Hp → VK → Prop} {te : TE} {tl th : TO} : tSl r te tl th σ H Q = te σ H fun x H1 => tl σ H1 fun l H2 => th σ H2 fun u H3 => r x l u H3 Q := rfl
def partQ (QO : Option Int → Hp → Prop) : VK := fun x H => ∃ i, x = .int i ∧ QO (some i) H
theorem part {t : TE} {QO : Option Int → Hp → Prop} : tPart t σ H QO = t σ H (partQ QO) := rfl
theorem partI {QO : Option Int → Hp → Prop} {i : Int} : partQ QO (.int i) H = QO (some i) H := propext ⟨fun ⟨_, e, q⟩ => by cases e; exact q, fun q => ⟨i, rfl, q⟩⟩
theorem noPart {QO : Option Int → Hp → Prop} : tNoPart σ H QO = QO none H := rfl
theorem slL {K : PySem.W.Frag} {a : Addr} {lo hi : Option Int} : rSlL K (.ref a) lo hi H Q = ∃ xs, SqL K H a xs ∧ ∀ p, H p = none → Q (.ref p) (upd H p (.lst (cutV xs lo hi))) := propext ⟨fun ⟨_, xs, e, a, q⟩ => by cases e; exact ⟨xs, a, q⟩, fun ⟨xs, b, q⟩ => ⟨a, xs, rfl, b, q⟩⟩
theorem cat {l b : Addr} : rCat (.ref l) (.ref b) H Q = ∃ xs zs, H l = some (.lst xs) ∧ H b = some (.lst zs) ∧ xs.length + zs.length ≤ sizeLine ∧ ∀ p, H p = none → Q (.ref p) (upd H p (.lst (xs ++ zs))) := propext ⟨fun ⟨_, _, xs, zs, e, f, a, b, c, q⟩ => by cases e; cases f; exact ⟨xs, zs, a, b, c, q⟩, fun ⟨xs, zs, a, b', c, q⟩ => ⟨l, b, xs, zs, rfl, rfl, a, b', c, q⟩⟩
def ForP (g : TG) (tb : TS) (D : Ends) (σ : St) (J : It) (H1 : Hp) : Prop := ∃ W : Nat → Nat → St → Hp → Prop, (∃ m, W 0 m σ H1) ∧ ∀ i m σ H, W i m σ H →
  (J.stop i H ∧ D.nx σ H) ∨ (J.go i H ∧ ∃ N : St → Hp → Prop, (∀ σ' H', N σ' H' → ∃ m', m' < m ∧ W (i + 1) m' σ' H') ∧ ∀ x H', J.yld i H x H' → g x σ H' fun σ2 H2 => tb { D with nx := N, ct := N, bk := D.nx } σ2 H2)
theorem frr {wi : TI} {g : TG} {tb : TS} : tFor wi g tb D σ H = wi σ H (ForP g tb D σ) := rfl
def CompP (m : Nat) (g : TG) (tc : TT) (te : TE) (σ : St) (Q : VK) (J : It) (H1 : Hp) : Prop :=
  ∃ W : Nat → Nat → List V → St → Hp → Prop, (∃ k, W 0 k [] (List.replicate m none ++ σ) H1) ∧ ∀ i k vs σ H, W i k vs σ H →
    (J.stop i H ∧ ∀ p, H p = none → Q (.ref p) (upd H p (.lst vs))) ∨
    (J.go i H ∧ vs.length < sizeLine ∧ ∃ N : List V → St → Hp → Prop, (∀ vs' σ' H', N vs' σ' H' → ∃ k', k' < k ∧ W (i + 1) k' vs' σ' H') ∧
      ∀ x H', J.yld i H x H' → g x σ H' fun σ2 H2 => tc σ2 H2 fun b H3 => if b = true then te σ2 H3 fun y H4 => N (vs ++ [y]) σ2 H4 else N vs σ2 H3)
theorem cmp {wi : TI} {m : Nat} {g : TG} {tc : TT} {te : TE} : tComp wi m g tc te σ H Q = wi σ H (CompP m g tc te σ Q) := rfl
def itQ (K : PySem.W.Frag) (R : It → Hp → Prop) : VK := fun x H1 => ∃ a, x = .ref a ∧ (∃ xs, SqL K H1 a xs) ∧ R (Itl K a) H1
theorem itl {K : PySem.W.Frag} {tl : TE} {R : It → Hp → Prop} : iList K tl σ H R = tl σ H (itQ K R) := rfl
theorem itlR {K : PySem.W.Frag} {R : It → Hp → Prop} {a : Addr} : itQ K R (.ref a) H = ((∃ xs, SqL K H a xs) ∧ R (Itl K a) H) := propext ⟨fun ⟨_, e, a, q⟩ => by cases e; exact ⟨a, q⟩, fun ⟨b, q⟩ => ⟨a, rfl, b, q⟩⟩
def ittQ (K : PySem.W.Frag) (R : It → Hp → Prop) : VK := fun x H1 => ∃ a, x = .ref a ∧ (∃ xs, SqT K H1 a xs) ∧ R (Itt K a) H1
theorem itt {K : PySem.W.Frag} {tl : TE} {R : It → Hp → Prop} : iTup K tl σ H R = tl σ H (ittQ K R) := rfl
theorem ittR {K : PySem.W.Frag} {R : It → Hp → Prop} {a : Addr} : ittQ K R (.ref a) H = ((∃ xs, SqT K H a xs) ∧ R (Itt K a) H) := propext ⟨fun ⟨_, e, a, q⟩ => by cases e; exact ⟨a, q⟩, fun ⟨b, q⟩ => ⟨a, rfl, b, q⟩⟩
def rgQ (R : It → Hp → Prop) : List V → Hp → Prop := fun vs H1 => ∃ j : Int, vs = [.int j] ∧ -(2 ^ 62) ≤ j ∧ j < 2 ^ 62 ∧ R (Itr 0 j.toNat) H1
theorem rg {ta : TA} {R : It → Hp → Prop} : iRng1 ta σ H R = ta σ H (rgQ R) := rfl
theorem rgI {R : It → Hp → Prop} {j : Int} : rgQ R [.int j] H = (-(2 ^ 62) ≤ j ∧ j < 2 ^ 62 ∧ R (Itr 0 j.toNat) H) := propext ⟨fun ⟨_, e, a, b, q⟩ => by cases e; exact ⟨a, b, q⟩, fun ⟨a, b, q⟩ => ⟨j, rfl, a, b, q⟩⟩
theorem lenL {K : PySem.W.Frag} {p : Addr} : rLen K [.ref p] H Q = ∃ ys, (SqL K H p ys ∨ SqT K H p ys) ∧ Q (.int ys.length) H := rfl
theorem lenS {K : PySem.W.Frag} {z : Str} : rLen K [.str z] H Q = (z.length ≤ sizeLine ∧ Q (.int z.length) H) := rfl
theorem isiII {K : PySem.W.Frag} {i : Int} : rIsi K [.int i, .ty "int"] H Q = Q (.bl true) H := propext ⟨fun ⟨_, _, e, f, q⟩ => by cases e; rw [kit_int_int] at f; cases f; exact q, fun q => ⟨_, _, rfl, kit_int_int, q⟩⟩
theorem isiIB {K : PySem.W.Frag} {i : Int} : rIsi K [.int i, .ty "bool"] H Q = Q (.bl false) H := propext ⟨fun ⟨_, _, e, f, q⟩ => by cases e; rw [kit_int_bool] at f; cases f; exact q, fun q => ⟨_, _, rfl, kit_int_bool, q⟩⟩
theorem isiSS {K : PySem.W.Frag} {i : Str} : rIsi K [.str i, .ty "str"] H Q = Q (.bl true) H := propext ⟨fun ⟨_, _, e, f, q⟩ => by cases e; rw [kit_str_str] at f; cases f; exact q, fun q => ⟨_, _, rfl, kit_str_str, q⟩⟩
theorem isiTT {K : PySem.W.Frag} {p : Addr} : rIsiT K [.ref p, .ty "tuple"] H Q = ((∃ xs, SqT K H p xs) ∧ Q (.bl true) H) := propext ⟨fun ⟨a, _, f, q⟩ => by rw [kit_tup_tup] at f; cases f; exact ⟨a, q⟩, fun ⟨a, q⟩ => ⟨a, _, kit_tup_tup, q⟩⟩
theorem isiLL {K : PySem.W.Frag} {p : Addr} : rIsiL K [.ref p, .ty "list"] H Q = ((∃ xs, SqL K H p xs) ∧ Q (.bl true) H) := propext ⟨fun ⟨a, _, f, q⟩ => by rw [kit_list_list] at f; cases f; exact ⟨a, q⟩, fun ⟨a, q⟩ => ⟨a, _, kit_list_list, q⟩⟩
theorem sumL {K : PySem.W.Frag} {p : Addr} : rSum K [.ref p] H Q = ∃ ns : List Int, SqL K H p (ns.map V.int) ∧ Q (.int ns.sum) H := rfl
theorem allL {K : PySem.W.Frag} {p : Addr} : rAll K [.ref p] H Q = ∃ bs : List Bool, SqL K H p (bs.map V.bl) ∧ Q (.bl (bs.all id)) H := rfl
theorem intI {i : Int} : rInt1 [.int i] H Q = Q (.int i) H := rfl
theorem intB {k : Bool} : rInt1 [.bl k] H Q = Q (.int (if k = true then 1 else 0)) H := rfl
theorem listOf {K : PySem.W.Frag} {p : Addr} : rListOf K [.ref p] H Q = ∃ ys, (SqL K H p ys ∨ SqT K H p ys) ∧ ∀ l, H l = none → Q (.ref l) (upd H l (.lst ys)) := rfl
theorem strI {i : Int} : rStrI [.int i] H Q = (i.natAbs.log2 < 1920 ∧ Q (.str (toString i)) H) := rfl
theorem bm {K : PySem.W.Frag} {T : String} {r : V → List V → Hp → VK → Prop} {to : TE} {t : TA} : tBM K T r to t σ H Q = to σ H fun x H1 => tyV K T x H1 ∧ t σ H1 fun xs H2 => r x xs H2 Q := rfl
theorem app {l : Addr} {y : V} : rAppend (.ref l) [y] H Q = ∃ xs, H l = some (.lst xs) ∧ xs.length < sizeLine ∧ Q .non (upd H l (.lst (xs ++ [y]))) := propext ⟨fun ⟨_, xs, _, e, f, a, b, q⟩ => by cases e; cases f; exact ⟨xs, a, b, q⟩, fun ⟨xs, a, b, q⟩ => ⟨l, xs, y, rfl, rfl, a, b, q⟩⟩
theorem inSeq {K : PySem.W.Frag} {x : V} {p : Addr} : rIn K false x (.ref p) H Q = ∃ xs, (SqL K H p xs ∨ SqT K H p xs) ∧ flatV x = true ∧ xs.all flatV = true ∧ Q (.bl (inV x xs)) H := propext ⟨fun ⟨_, xs, e, a, b, c, q⟩ => by cases e; exact ⟨xs, a, b, c, q⟩, fun ⟨xs, a, b, c, q⟩ => ⟨p, xs, rfl, a, b, c, q⟩⟩
theorem eqD {K : PySem.W.Frag} {x y : V} : rEqD K false x y H Q = ∃ d e, DatV K H x d ∧ DatV K H y e ∧ SeqAt.shaped d = true ∧ SeqAt.shaped e = true ∧ SeqAt.noMix d e = true ∧ Q (.bl (same d e)) H := rfl
theorem neD {K : PySem.W.Frag} {x y : V} : rEqD K true x y H Q = ∃ d e, DatV K H x d ∧ DatV K H y e ∧ SeqAt.shaped d = true ∧ SeqAt.shaped e = true ∧ SeqAt.noMix d e = true ∧ Q (.bl (!same d e)) H := rfl
theorem sub {to ti : TE} {t : TSet} {v : V} {QS : St → Hp → Prop} : gSub to ti t v σ H QS = to σ H fun o H1 => ti σ H1 fun i H2 => t o i v H2 fun H3 => QS σ H3 := rfl
theorem setL {p : Addr} {k : Int} {v : V} {QH : Hp → Prop} : rSetL (.ref p) (.int k) v H QH = ∃ xs j, H p = some (.lst xs) ∧ ixN xs.length k = some j ∧ QH (upd H p (.lst (xs.set j v))) := propext ⟨fun ⟨_, xs, _, j, e, f, a, b, q⟩ => by cases e; cases f; exact ⟨xs, j, a, b, q⟩, fun ⟨xs, j, a, b, q⟩ => ⟨p, xs, k, j, rfl, rfl, a, b, q⟩⟩
theorem gtup {K : PySem.W.Frag} {n : Nat} {t : TGs} {a : Addr} {QS : St → Hp → Prop} : gTup K n t (.ref a) σ H QS = ∃ xs, SqT K H a xs ∧ xs.length = n ∧ t xs σ H QS := propext ⟨fun ⟨_, xs, e, b, c, q⟩ => by cases e; exact ⟨xs, b, c, q⟩, fun ⟨xs, b, c, q⟩ => ⟨a, xs, rfl, b, c, q⟩⟩
theorem gnil {QS : St → Hp → Prop} : gNil [] σ H QS = QS σ H := propext ⟨fun ⟨_, q⟩ => q, fun q => ⟨rfl, q⟩⟩
theorem gcons {t : TG} {u : TGs} {v : V} {r : List V} {QS : St → Hp → Prop} : gCons t u (v :: r) σ H QS = t v σ H fun σ' H' => u r σ' H' QS := propext ⟨fun ⟨_, _, e, q⟩ => by cases e; exact q, fun q => ⟨v, r, rfl, q⟩⟩
theorem all {QB : Bool → Hp → Prop} : tAll σ H QB = QB true H := rfl
end
end Rd
end L2
set_option Elab.async false
set_option linter.all false
set_option maxRecDepth 100000
set_option maxHeartbeats 4000000
/-! A list unpacked; the rules within a comprehension's block (what hangs on the module's part is the context's own). -/
namespace L2
open PySem PySem.Spec PyProof.Rows
section
variable {prog : Program} {w : World} {A : Around} {E : Value → Shared → Prop} {s : Shared}
end
section
variable {X : Cx} {pos : Pos}
end
/-! ### within a block -/
theorem BlkOk.ofS {X : Cx} {tn M N : List Str} {scope sc : Scope} (hs : X.env.scope = sc) (hN : X.N = N) (hk : scope.kind = .function) (h : blkOk (fun x => sc.names.lookup x) N M scope = true) : BlkOk X tn M scope :=
  BlkOk.of hk (by rw [hN]; have e : X.env.kindOf = fun x => sc.names.lookup x := by rw [← hs]; rfl
                  rw [e]; exact h)
section
variable {X : Cx} {N' : List Str} {scope : Scope} {C : Addr} {s₀ : Shared} {H₀ : Hp} {ex : List Addr}
theorem ix_listB : IxR (X.block N' scope C s₀ H₀ ex) (rIxL X.K) := ix_list
theorem pg_tupB {es : List Expr} {k : Nat} {t : TGs} {n : Nat} {pos : Pos} (hc : X.calm = true) (h : PGs (X.block N' scope C s₀ H₀ ex) es t)
    (hn : (assignEach es (X.block N' scope C s₀ H₀ ex).env).length = n := by rfl) (hst : (assignEach es (X.block N' scope C s₀ H₀ ex).env).findIdx? (·.1) = none := by rfl) : PG (X.block N' scope C s₀ H₀ ex) (.Tuple es k pos) (gTup X.K n t) := pg_tup hc h hn hst
end
/-! ### a new object, the heap behind it a letter -/
structure New (H : Hp) (p : Addr) (o : HO) (H2 : Hp) : Prop where
  nw : H p = none
  at' : H2 p = some o
  same : Same H H2
  els : ∀ b, b ≠ p → H2 b = H b
theorem New.of {H : Hp} {p : Addr} {o : HO} (h : H p = none) : New H p o (upd H p o) := ⟨h, upd_same, Same.upd h, fun _ hb => upd_ne hb⟩
/-- a tracked list is written -/
structure Wrt (H : Hp) (p : Addr) (o : HO) (H2 : Hp) : Prop where
  at' : H2 p = some o
  els : ∀ b, b ≠ p → H2 b = H b
theorem Wrt.of {H : Hp} {p : Addr} {o : HO} : Wrt H p o (upd H p o) := ⟨upd_same, fun _ hb => upd_ne hb⟩
section
variable {X : Cx} {e : Expr} {es : List Expr} {t : TA} {pos : Pos}
def tLstA (t : TA) : TE := fun σ H Q => t σ H fun xs H1 => xs.length ≤ sizeLine ∧ ∀ p H2, New H1 p (.lst xs) H2 → Q (.ref p) H2
def tTupA (t : TA) : TE := fun σ H Q => t σ H fun xs H1 => xs.length ≤ sizeLine ∧ ∀ p H2, New H1 p (.tup xs) H2 → Q (.ref p) H2
theorem pe_lstA (h : PA X es t) : PE X (.List es pos) (tLstA t) := by
  intro pins s σ H Q I hq
  refine wpAny_List_spliced (thn (h pos pins s σ H _ I hq) fun us s1 ⟨xs, H1, I1, r, z, q⟩ => ⟨by rw [← r.length]; exact z, ?_⟩)
  have hf : H1 s1.heap.objs.size = none := I1.hok.fresh (Nat.le_refl _)
  refine ⟨.ref s1.heap.objs.size, upd H1 s1.heap.objs.size (.lst xs), I1.laid (t' := s1.toks) (fun b u e => Heap.get?_push_of_some _ e) (Nat.le_refl _) ?_, rfl, q _ _ (New.of hf)⟩
  exact ⟨z, us, 0, r, Heap.get?_push_size _ rfl⟩
def rCatA : R2 := fun x y H Q => ∃ l b xs zs, x = .ref l ∧ y = .ref b ∧ H l = some (.lst xs) ∧ H b = some (.lst zs) ∧ xs.length + zs.length ≤ sizeLine ∧ ∀ p H2, New H p (.lst (xs ++ zs)) H2 → Q (.ref p) H2
theorem op_catA : OpR X (binaryOp .Add) rCatA := by
  intro pins s σ H x y v u Q I rx ry h
  obtain ⟨l, b, xs, zs, e1, e2, a, b', c, q⟩ := h
  exact op_cat pins s σ H x y v u Q I rx ry ⟨l, b, xs, zs, e1, e2, a, b', c, fun p hp => q p _ (New.of hp)⟩
def rRepA : R2 := fun x y H Q => ∃ l k xs, x = .ref l ∧ y = .int k ∧ H l = some (.lst xs) ∧ -(2 ^ 63) ≤ k ∧ k < 2 ^ 63 ∧ xs.length * k.toNat ≤ sizeLine ∧ ∀ p H2, New H p (.lst (List.replicate k.toNat xs).flatten) H2 → Q (.ref p) H2
def rSlLA (K : PySem.W.Frag) : V → Option Int → Option Int → Hp → VK → Prop := fun x lo hi H Q => ∃ a xs, x = .ref a ∧ SqL K H a xs ∧ ∀ p H2, New H p (.lst (cutV xs lo hi)) H2 → Q (.ref p) H2
theorem sl_listA : SlR X (rSlLA X.K) := by
  intro pins s σ H x v vl vu lo hi sl Q I rx hs pl pu h
  obtain ⟨a, xs, e, hx, q⟩ := h
  exact sl_list pins s σ H x v vl vu lo hi sl Q I rx hs pl pu ⟨a, xs, e, hx, fun p hp => q p _ (New.of hp)⟩
def rListOfA (K : PySem.W.Frag) : List V → Hp → VK → Prop
  | [.ref p], H, Q => ∃ ys, (SqL K H p ys ∨ SqT K H p ys) ∧ ∀ l H2, New H l (.lst ys) H2 → Q (.ref l) H2
  | _, _, _ => False
def rAppendA : V → List V → Hp → VK → Prop
  | .ref l, [y], H, Q => ∃ xs, H l = some (.lst xs) ∧ xs.length < sizeLine ∧ ∀ H2, Wrt H l (.lst (xs ++ [y])) H2 → Q .non H2
  | _, _, _, _ => False
def rSetA : V → V → V → Hp → (Hp → Prop) → Prop
  | .ref p, .int k, v, H, Q => ∃ xs j, H p = some (.lst xs) ∧ ixN xs.length k = some j ∧ ∀ H2, Wrt H p (.lst (xs.set j v)) H2 → Q H2
  | _, _, _, _, _ => False
variable {N' : List Str} {scope : Scope} {C : Addr} {s₀ : Shared} {H₀ : Hp} {ex : List Addr}
end
section
variable {g : TG} {tc : TT} {te : TE} {Q : VK} {σ : St} {H : Hp} {m : Nat}
theorem compA_list {K : PySem.W.Frag} {a : Addr} (xs : List V) (Pv : Nat → List V → St → Hp → Prop) (h0 : Pv 0 [] (List.replicate m none ++ σ) H) (hl : ∀ i vs σ H, i ≤ xs.length → Pv i vs σ H → SqL K H a xs) (hz : xs.length ≤ sizeLine) (hn : ∀ i vs σ H, Pv i vs σ H → vs.length ≤ i)
    (hs : ∀ i x vs σ H, xs[i]? = some x → Pv i vs σ H → g x σ H fun σ2 H2 => tc σ2 H2 fun b H3 => if b = true then te σ2 H3 fun y H4 => Pv (i + 1) (vs ++ [y]) σ2 H4 else Pv (i + 1) vs σ2 H3)
    (hd : ∀ vs σ H, Pv xs.length vs σ H → ∀ p H2, New H p (.lst vs) H2 → Q (.ref p) H2) : Rd.CompP m g tc te σ Q (Itl K a) H :=
  comp_list (xs := xs) Pv h0 hl hz hn hs fun vs σ H pv p hp => hd vs σ H pv p _ (New.of hp)
theorem compA_range {lo : Int} {n : Nat} (Pv : Nat → List V → St → Hp → Prop) (h0 : Pv 0 [] (List.replicate m none ++ σ) H) (hz : n ≤ sizeLine) (hn : ∀ i vs σ H, Pv i vs σ H → vs.length ≤ i)
    (hs : ∀ i vs σ H, i < n → Pv i vs σ H → g (.int (lo + i)) σ H fun σ2 H2 => tc σ2 H2 fun b H3 => if b = true then te σ2 H3 fun y H4 => Pv (i + 1) (vs ++ [y]) σ2 H4 else Pv (i + 1) vs σ2 H3)
    (hd : ∀ vs σ H, Pv n vs σ H → ∀ p H2, New H p (.lst vs) H2 → Q (.ref p) H2) : Rd.CompP m g tc te σ Q (Itr lo n) H :=
  comp_range Pv h0 hz hn hs fun vs σ H pv p hp => hd vs σ H pv p _ (New.of hp)
end
/-- what was there ahead of the new one stays when the new one is written -/
theorem Wrt.same {H H1 H2 : Hp} {p : Addr} {o : HO} (w : Wrt H1 p o H2) (s : Same H H1) (h : H p = none) : Same H H2 := fun b u e => by
  rw [w.els b (ne_of_none e h)]
  exact s b u e
namespace Rd
section
variable {σ : St} {H : Hp} {Q : VK}
theorem lstA {t : TA} : tLstA t σ H Q = t σ H fun xs H1 => xs.length ≤ sizeLine ∧ ∀ p H2, New H1 p (.lst xs) H2 → Q (.ref p) H2 := rfl
theorem tupA {t : TA} : tTupA t σ H Q = t σ H fun xs H1 => xs.length ≤ sizeLine ∧ ∀ p H2, New H1 p (.tup xs) H2 → Q (.ref p) H2 := rfl
theorem catA {l b : Addr} : rCatA (.ref l) (.ref b) H Q = ∃ xs zs, H l = some (.lst xs) ∧ H b = some (.lst zs) ∧ xs.length + zs.length ≤ sizeLine ∧ ∀ p H2, New H p (.lst (xs ++ zs)) H2 → Q (.ref p) H2 := propext ⟨fun ⟨_, _, xs, zs, e, f, a, b, c, q⟩ => by cases e; cases f; exact ⟨xs, zs, a, b, c, q⟩, fun ⟨xs, zs, a, b', c, q⟩ => ⟨l, b, xs, zs, rfl, rfl, a, b', c, q⟩⟩
theorem repA {l : Addr} {k : Int} : rRepA (.ref l) (.int k) H Q = ∃ xs, H l = some (.lst xs) ∧ -(2 ^ 63) ≤ k ∧ k < 2 ^ 63 ∧ xs.length * k.toNat ≤ sizeLine ∧ ∀ p H2, New H p (.lst (List.replicate k.toNat xs).flatten) H2 → Q (.ref p) H2 := propext ⟨fun ⟨_, _, xs, e, f, a, b, c, d, q⟩ => by cases e; cases f; exact ⟨xs, a, b, c, d, q⟩, fun ⟨xs, a, b, c, d, q⟩ => ⟨l, k, xs, rfl, rfl, a, b, c, d, q⟩⟩
theorem slLA {K : PySem.W.Frag} {a : Addr} {lo hi : Option Int} : rSlLA K (.ref a) lo hi H Q = ∃ xs, SqL K H a xs ∧ ∀ p H2, New H p (.lst (cutV xs lo hi)) H2 → Q (.ref p) H2 := propext ⟨fun ⟨_, xs, e, a, q⟩ => by cases e; exact ⟨xs, a, q⟩, fun ⟨xs, b, q⟩ => ⟨a, xs, rfl, b, q⟩⟩
theorem listA {K : PySem.W.Frag} {p : Addr} : rListOfA K [.ref p] H Q = ∃ ys, (SqL K H p ys ∨ SqT K H p ys) ∧ ∀ l H2, New H l (.lst ys) H2 → Q (.ref l) H2 := rfl
theorem appA {l : Addr} {y : V} : rAppendA (.ref l) [y] H Q = ∃ xs, H l = some (.lst xs) ∧ xs.length < sizeLine ∧ ∀ H2, Wrt H l (.lst (xs ++ [y])) H2 → Q .non H2 := rfl
theorem setA {p : Addr} {k : Int} {v : V} {QH : Hp → Prop} : rSetA (.ref p) (.int k) v H QH = ∃ xs j, H p = some (.lst xs) ∧ ixN xs.length k = some j ∧ ∀ H2, Wrt H p (.lst (xs.set j v)) H2 → QH H2 := rfl
end
theorem glst {K : PySem.W.Frag} {n : Nat} {t : TGs} {a : Addr} {σ : St} {H : Hp} {QS : St → Hp → Prop} : gLst K n t (.ref a) σ H QS = ∃ xs, SqL K H a xs ∧ xs.length = n ∧ t xs σ H QS := propext ⟨fun ⟨_, xs, e, b, c, q⟩ => by cases e; exact ⟨xs, b, c, q⟩, fun ⟨xs, b, c, q⟩ => ⟨a, xs, rfl, b, c, q⟩⟩
theorem cxKn {X : Cx} : X.nox.K = X.K := rfl
end Rd
end L2
set_option Elab.async false
set_option linter.all false
set_option maxRecDepth 100000
set_option maxHeartbeats 4000000
/-! COMPREHENSIONS of one name and no test, by what holds of each item; lists and tuples that stay. -/
namespace L2
open PySem PySem.Spec PyProof.Rows
theorem push_all {R : Nat → V → Prop} {vs : List V} {y : V} {i : Nat} (hl : vs.length = i) (hr : ∀ j v, vs[j]? = some v → R j v) (h : R i y) : ∀ j v, (vs ++ [y])[j]? = some v → R j v := by
  intro j v e
  by_cases hj : j < vs.length
  · rw [List.getElem?_append_left hj] at e
    exact hr j v e
  · rw [List.getElem?_append_right (by omega)] at e
    have hz : j - vs.length = 0 := by
      have := (List.getElem?_eq_some_iff.mp e).1
      simp at this
      omega
    rw [hz] at e
    have e' : y = v := by simpa using e
    have hi : j = i := by omega
    rw [← e', hi]
    exact h
section
variable {te : TE} {Q : VK} {σ : St} {H : Hp}
theorem compR_range {lo : Int} {n : Nat} (R : Nat → V → Prop) (hz : n ≤ sizeLine)
    (hs : ∀ (i : Nat) (H' : Hp) (q : VK), i < n → Same H H' → (∀ y H4, Same H' H4 → R i y → q y H4) → te (some (.int (lo + i)) :: σ) H' q)
    (hd : ∀ vs p H1 H2, vs.length = n → (∀ j v, vs[j]? = some v → R j v) → Same H H1 → New H1 p (.lst vs) H2 → Q (.ref p) H2) :
    Rd.CompP 1 (gName 0) tAll te σ Q (Itr lo n) H := by
  refine compA_range (fun i vs σ' H' => vs.length = i ∧ (∀ j v, vs[j]? = some v → R j v) ∧ (∃ b, σ' = b :: σ) ∧ Same H H') ⟨rfl, by simp, ⟨none, rfl⟩, Same.refl _⟩ hz (fun i vs σ' H' h => Nat.le_of_eq h.1) ?_ ?_
  · rintro i vs σ' H' hi ⟨hl, hr, ⟨b, rfl⟩, s⟩
    rw [Rd.g0, Rd.all, if_pos rfl]
    exact (hs i H' _ hi s fun y H4 s4 r => ⟨by simp [hl], push_all hl hr r, ⟨_, rfl⟩, s.trans s4⟩)
  · rintro vs σ' H' ⟨hl, hr, _, s⟩ p H2 n2
    exact hd vs p H' H2 hl hr s n2
end
/-! what each item is, the list is -/
theorem list_of {f : Nat → V} {n : Nat} {vs : List V} (hl : vs.length = n) (h : ∀ (j : Nat) (v : V), vs[j]? = some v → v = f j) : vs = (List.range n).map f := by
  apply List.ext_getElem?
  intro j
  by_cases hj : j < n
  · have hv : vs[j]? = some vs[j] := List.getElem?_eq_getElem (by omega)
    rw [hv, h j _ hv]
    simp [hj]
  · rw [List.getElem?_eq_none (by omega), List.getElem?_eq_none (by simp; omega)]
/-! lists and tuples through the heaps that follow one another -/
section
variable {K : PySem.W.Frag} {H H1 H2 : Hp} {p q : Addr} {o : HO} {xs : List V}
theorem sq_at (n : New H p (.lst xs) H2) : SqL K H2 p xs := SqL.of n.at'
theorem sq_new (n : New H q o H2) (h : SqL K H p xs) : SqL K H2 p xs := n.same.seq h
theorem sq_same (n : Same H H2) (h : SqL K H p xs) : SqL K H2 p xs := n.seq h
theorem st_at (n : New H p (.tup xs) H2) : SqT K H2 p xs := SqT.of n.at'
theorem st_new (n : New H q o H2) (h : SqT K H p xs) : SqT K H2 p xs := n.same.seqT h
theorem st_same (n : Same H H2) (h : SqT K H p xs) : SqT K H2 p xs := n.seqT h
theorem sm_new (n : New H1 q o H2) (h : Same H H1) : Same H H2 := h.trans n.same
theorem sm_same (n : Same H1 H2) (h : Same H H1) : Same H H2 := h.trans n
theorem at_new (n : New H q o H2) {u : HO} (h : H p = some u) : H2 p = some u := n.same _ _ h
theorem at_same (n : Same H H2) {u : HO} (h : H p = some u) : H2 p = some u := n _ _ h
theorem at_at (n : New H p o H2) : H2 p = some o := n.at'
end
end L2
set_option Elab.async false
set_option linter.all false
set_option maxRecDepth 100000
set_option maxHeartbeats 4000000
/-! OBJECTS: a method by the class that the instance has, making an instance, isinstance with an own class; texts joined and split. -/
namespace L2
open PySem PySem.Spec PyProof.Rows
/-- a method of the class at C, by its promise -/
structure MCal (P : Program) (w : World) (K : PySem.W.Frag) (mg : Str → Option Value) (base : Heap) (C : Addr) (m : Str) (k : Nat) (sp : Sp) : Prop where
  cl : Cls K C
  ex : ∃ (f : Addr) (fd : FuncData) (ps : List Str), FnOk P w K mg base CX0 k f fd ps sp ∧ Meth K C m f ∧ Binds K fd ps []
def tMethC (P : Program) (w : World) (K : PySem.W.Frag) (mg : Str → Option Value) (base : Heap) (m : Str) (k : Nat) (ta : TE) (t : TA) : TE := fun σ H Q => ta σ H fun x H1 =>
  ∃ a C dx fs sp, x = .ref a ∧ H1 a = some (.ins C dx fs) ∧ fs.lookup m = none ∧ MCal P w K mg base C m k sp ∧ t σ H1 fun vs H2 => sp (x :: vs) H2 Q E0
section
variable {X : Cx} {k : Nat} {m x : Str} {o e : Expr} {es : List Expr} {ta : TE} {t : TA} {p pos apos : Pos} {C : Addr} {sp : Sp}
/-- a new instance, the heap behind it a letter -/
structure NewI (H : Hp) (x dx C : Addr) (H2 : Hp) : Prop where
  nx : H x = none
  ndx : H dx = none
  ne : dx ≠ x
  at' : H2 x = some (.ins C dx [])
  same : Same H H2
  els : ∀ b, b ≠ x → b ≠ dx → H2 b = H b
theorem NewI.of {H : Hp} {x dx C : Addr} (h1 : H x = none) (h2 : H dx = none) (ne : dx ≠ x) : NewI H x dx C (upd (upd H dx (.own x)) x (.ins C dx [])) :=
  ⟨h1, h2, ne, upd_same, fun b u e => by rw [upd_ne (ne_of_none e h1), upd_ne (ne_of_none e h2)]; exact e, fun b a c => by rw [upd_ne a, upd_ne c]⟩
/-- a class that is made, by its __init__'s promise -/
structure KCal (P : Program) (w : World) (K : PySem.W.Frag) (mg : Str → Option Value) (base : Heap) (x : Str) (C : Addr) (k : Nat) (sp : Sp) : Prop where
  ex : ∃ (f : Addr) (fd : FuncData) (ps : List Str), Mk K C f ∧ FnOk P w K mg base CX0 k f fd ps sp ∧ mg x = some (.ref C) ∧ Binds K fd ps []
def tMakeC (C : Addr) (sp : Sp) (t : TA) : TE := fun σ H Q => t σ H fun vs H1 => ∀ x dx H2, NewI H1 x dx C H2 → sp (.ref x :: vs) H2 (fun v H3 => v = .non ∧ Q (.ref x) H3) E0
/-- o.f = v, the heap behind it a letter -/
def sFldA (K : PySem.W.Frag) (ta tv : TE) (f : Str) : TS := fun D σ H => tv σ H fun y H1 => ta σ H1 fun x H2 => ∃ a C dx fs, x = .ref a ∧ H2 a = some (.ins C dx fs) ∧ Cls K C ∧ NoAttr K C f ∧ fs.length < 1000 ∧
  ∀ H3, Wrt H2 a (.ins C dx (putF f y fs)) H3 → D.nx σ H3
/-- what isinstance asks of an own class -/
structure InsOk (K : PySem.W.Frag) (C : Addr) : Prop where
  cl : Cls K C
  ha : PySem.W.findIn K (.ref C) "__class__" = some (some (.builtin "object.__class__"))
  hn : PySem.W.specialIn K (.builtin "object.__class__") "__get__" = some (some (.builtin "getset_descriptor.__get__"))
  htk : PySem.W.takesIn K (.builtin "object.__class__") = some true
  hm : PySem.W.mroIn K C (.type "object") = some true
/-- isinstance(x, C) of an instance -/
def rIsiO (K : PySem.W.Frag) : List V → Hp → VK → Prop
  | [.ref a, .ref D], H, Q => ∃ C dx fs b, H a = some (.ins C dx fs) ∧ InsOk K C ∧ PySem.W.kitOne K (.ref C) (.ref D) = some b ∧ Q (.bl b) H
  | _, _, _ => False
/-! ### texts -/
/-- sep.join(xs) -/
def rJoin (K : PySem.W.Frag) : V → List V → Hp → VK → Prop
  | .str z, [.ref p], H, Q => ∃ ys : List Str, SqL K H p (ys.map V.str) ∧ (ys.map (·.length)).sum + ys.length * z.length ≤ 16777216 ∧ Q (.str (Txt.join z ys)) H
  | _, _, _, _ => False
/-- x.split(y), y not empty -/
def rSplit : V → List V → Hp → VK → Prop
  | .str z, [.str y], H, Q => z.length ≤ sizeLine ∧ (y.length == 0) = false ∧ (Builtin.Str.partsBetween z (Builtin.Str.occurrences z y 0 z.length (z.length + 1)) y.length).length ≤ sizeLine ∧
      ∀ p H2, New H p (.lst ((Txt.split z y).map V.str)) H2 → Q (.ref p) H2
  | _, _, _, _ => False
end
namespace Rd
section
variable {σ : St} {H : Hp} {Q : VK} {D : Ends}
def methQ (P : Program) (w : World) (K : PySem.W.Frag) (mg : Str → Option Value) (base : Heap) (m : Str) (k : Nat) (t : TA) (σ : St) (Q : VK) : VK := fun x H1 =>
  ∃ a C dx fs sp, x = .ref a ∧ H1 a = some (.ins C dx fs) ∧ fs.lookup m = none ∧ MCal P w K mg base C m k sp ∧ t σ H1 fun vs H2 => sp (x :: vs) H2 Q E0
theorem meC {P : Program} {w : World} {K : PySem.W.Frag} {mg : Str → Option Value} {base : Heap} {m : Str} {k : Nat} {ta : TE} {t : TA} : tMethC P w K mg base m k ta t σ H Q = ta σ H (methQ P w K mg base m k t σ Q) := rfl
theorem meQ {P : Program} {w : World} {K : PySem.W.Frag} {mg : Str → Option Value} {base : Heap} {m : Str} {k : Nat} {t : TA} {a : Addr} : methQ P w K mg base m k t σ Q (.ref a) H =
    ∃ C dx fs sp, H a = some (.ins C dx fs) ∧ fs.lookup m = none ∧ MCal P w K mg base C m k sp ∧ t σ H fun vs H2 => sp (.ref a :: vs) H2 Q E0 :=
  propext ⟨fun ⟨_, C, dx, fs, sp, e, a1, a2, a3, q⟩ => by cases e; exact ⟨C, dx, fs, sp, a1, a2, a3, q⟩, fun ⟨C, dx, fs, sp, a1, a2, a3, q⟩ => ⟨a, C, dx, fs, sp, rfl, a1, a2, a3, q⟩⟩
theorem mkC {C : Addr} {sp : Sp} {t : TA} : tMakeC C sp t σ H Q = t σ H fun vs H1 => ∀ x dx H2, NewI H1 x dx C H2 → sp (.ref x :: vs) H2 (fun v H3 => v = .non ∧ Q (.ref x) H3) E0 := rfl
def fldQ (K : PySem.W.Frag) (f : Str) (y : V) (D : Ends) (σ : St) : VK := fun x H2 => ∃ a C dx fs, x = .ref a ∧ H2 a = some (.ins C dx fs) ∧ Cls K C ∧ NoAttr K C f ∧ fs.length < 1000 ∧
  ∀ H3, Wrt H2 a (.ins C dx (putF f y fs)) H3 → D.nx σ H3
theorem sfA {K : PySem.W.Frag} {ta tv : TE} {f : Str} : sFldA K ta tv f D σ H = tv σ H fun y H1 => ta σ H1 (fldQ K f y D σ) := rfl
theorem sfQ {K : PySem.W.Frag} {f : Str} {y : V} {a : Addr} : fldQ K f y D σ (.ref a) H = ∃ C dx fs, H a = some (.ins C dx fs) ∧ Cls K C ∧ NoAttr K C f ∧ fs.length < 1000 ∧ ∀ H3, Wrt H a (.ins C dx (putF f y fs)) H3 → D.nx σ H3 :=
  propext ⟨fun ⟨_, C, dx, fs, e, q⟩ => by cases e; exact ⟨C, dx, fs, q⟩, fun ⟨C, dx, fs, q⟩ => ⟨a, C, dx, fs, rfl, q⟩⟩
def fdQ (K : PySem.W.Frag) (f : Str) (Q : VK) : VK := fun x H1 => ∃ a C dx fs v, x = .ref a ∧ H1 a = some (.ins C dx fs) ∧ Cls K C ∧ NoAttr K C f ∧ fs.lookup f = some v ∧ Q v H1
theorem fdE {K : PySem.W.Frag} {ta : TE} {f : Str} : tFld K ta f σ H Q = ta σ H (fdQ K f Q) := rfl
theorem fdR {K : PySem.W.Frag} {f : Str} {a : Addr} : fdQ K f Q (.ref a) H = ∃ C dx fs v, H a = some (.ins C dx fs) ∧ Cls K C ∧ NoAttr K C f ∧ fs.lookup f = some v ∧ Q v H :=
  propext ⟨fun ⟨_, C, dx, fs, v, e, q⟩ => by cases e; exact ⟨C, dx, fs, v, q⟩, fun ⟨C, dx, fs, v, q⟩ => ⟨a, C, dx, fs, v, rfl, q⟩⟩
theorem isiO {K : PySem.W.Frag} {a D : Addr} : rIsiO K [.ref a, .ref D] H Q = ∃ C dx fs b, H a = some (.ins C dx fs) ∧ InsOk K C ∧ PySem.W.kitOne K (.ref C) (.ref D) = some b ∧ Q (.bl b) H := rfl
theorem join {K : PySem.W.Frag} {z : Str} {p : Addr} : rJoin K (.str z) [.ref p] H Q = ∃ ys : List Str, SqL K H p (ys.map V.str) ∧ (ys.map (·.length)).sum + ys.length * z.length ≤ 16777216 ∧ Q (.str (Txt.join z ys)) H := rfl
theorem split {z y : Str} : rSplit (.str z) [.str y] H Q = (z.length ≤ sizeLine ∧ (y.length == 0) = false ∧ (Builtin.Str.partsBetween z (Builtin.Str.occurrences z y 0 z.length (z.length + 1)) y.length).length ≤ sizeLine ∧
      ∀ p H2, New H p (.lst ((Txt.split z y).map V.str)) H2 → Q (.ref p) H2) := rfl
end
end Rd
end L2
/-! ### classes of the text, checked at once -/
namespace L2
open PySem PySem.Spec PyProof.Rows
def clsOkB (K : PySem.W.Frag) (C : Addr) (ms : List (Str × Addr)) (fs : List Str) : Bool :=
  PySem.W.plainGet K C Str.empty && PySem.W.hasDictIn K C && PySem.W.plainOver K C && (PySem.W.findIn K (.ref C) "__setattr__" == some (some (.builtin "object.__setattr__")))
  && (PySem.W.findIn K (.ref C) "__class__" == some (some (.builtin "object.__class__"))) && (PySem.W.specialIn K (.builtin "object.__class__") "__get__" == some (some (.builtin "getset_descriptor.__get__")))
  && (PySem.W.takesIn K (.builtin "object.__class__") == some true) && (PySem.W.mroIn K C (.type "object") == some true) && PySem.W.makesIn K C && PySem.W.keepIn K (.ref C)
  && ms.all (fun p => PySem.W.findIn K (.ref C) p.1 == some (some (.ref p.2)) && PySem.W.isFn K (.ref p.2) && PySem.W.keepIn K (.ref p.2)) && fs.all (fun f => PySem.W.findIn K (.ref C) f == some none)
structure ClsOk (K : PySem.W.Frag) (C : Addr) (ms : List (Str × Addr)) (fs : List Str) : Prop where
  ins : InsOk K C
  mks : PySem.W.makesIn K C = true
  kp : PySem.W.keepIn K (.ref C) = true
  me : ∀ p ∈ ms, Meth K C p.1 p.2
  na : ∀ f ∈ fs, NoAttr K C f
theorem ClsOk.of {K : PySem.W.Frag} {C : Addr} {ms : List (Str × Addr)} {fs : List Str} (h : clsOkB K C ms fs = true) : ClsOk K C ms fs := by
  unfold clsOkB at h
  simp only [Bool.and_eq_true, List.all_eq_true, beq_iff_eq] at h
  obtain ⟨⟨⟨⟨⟨⟨⟨⟨⟨⟨⟨a, b⟩, c⟩, d⟩, e⟩, f⟩, g⟩, i⟩, j⟩, k⟩, l⟩, m⟩ := h
  exact ⟨⟨⟨a, b, c, d⟩, e, f, g, i⟩, j, k, fun p hp => let ⟨⟨x, y⟩, z⟩ := l p hp; ⟨x, y, z⟩, fun f hf => m f hf⟩
theorem ClsOk.made {K : PySem.W.Frag} {C f : Addr} {ms : List (Str × Addr)} {fs : List Str} (h : ClsOk K C ms fs) (hm : (("__init__" : Str), f) ∈ ms) : Mk K C f := ⟨h.mks, (h.me _ hm).at_, (h.me _ hm).fn, h.kp⟩
end L2
set_option Elab.async false
set_option linter.all false
set_option maxRecDepth 100000
set_option maxHeartbeats 4000000
/-! reversed(xs) walked, xs[::-1]. -/
namespace L2
open PySem PySem.Spec PyProof.Rows
/-- a list of n items from its end -/
def Itv (K : PySem.W.Frag) (a : Addr) (n : Nat) : It :=
  ⟨fun i H => ∃ xs x, SqL K H a xs ∧ xs.length = n ∧ xs.reverse[i]? = some x, fun i H x H' => H' = H ∧ ∀ xs, SqL K H a xs → xs.reverse[i]? = some x, fun i _ => i = n⟩
section
variable {X : Cx} {tg : Expr}
def iRev (K : PySem.W.Frag) (ta : TA) : TI := fun σ H R => ta σ H fun vs H1 => ∃ a xs, vs = [.ref a] ∧ SqL K H1 a xs ∧ R (Itv K a xs.length) H1
/-- xs[::-1] -/
def tRev (K : PySem.W.Frag) (te : TE) (ts : TO) : TE := fun σ H Q => te σ H fun x H1 => ts σ H1 fun o H2 => ∃ a xs, x = .ref a ∧ o = some (-1) ∧ SqL K H2 a xs ∧ ∀ p H3, New H2 p (.lst xs.reverse) H3 → Q (.ref p) H3
end
namespace Rd
section
variable {σ : St} {H : Hp} {Q : VK}
def rvQ (K : PySem.W.Frag) (R : It → Hp → Prop) : List V → Hp → Prop := fun vs H1 => ∃ a xs, vs = [.ref a] ∧ SqL K H1 a xs ∧ R (Itv K a xs.length) H1
theorem rv {K : PySem.W.Frag} {ta : TA} {R : It → Hp → Prop} : iRev K ta σ H R = ta σ H (rvQ K R) := rfl
theorem rvI {K : PySem.W.Frag} {R : It → Hp → Prop} {a : Addr} : rvQ K R [.ref a] H = ∃ xs, SqL K H a xs ∧ R (Itv K a xs.length) H := propext ⟨fun ⟨_, xs, e, b, q⟩ => by cases e; exact ⟨xs, b, q⟩, fun ⟨xs, b, q⟩ => ⟨a, xs, rfl, b, q⟩⟩
theorem revE {K : PySem.W.Frag} {te : TE} {ts : TO} : tRev K te ts σ H Q = te σ H fun x H1 => ts σ H1 fun o H2 => ∃ a xs, x = .ref a ∧ o = some (-1) ∧ SqL K H2 a xs ∧ ∀ p H3, New H2 p (.lst xs.reverse) H3 → Q (.ref p) H3 := rfl
end
end Rd
end L2
set_option Elab.async false
set_option linter.all false
set_option maxRecDepth 100000
set_option maxHeartbeats 4000000
/-! Texts put together, a sign of a text; lists of truths compared; rules within a block for methods. -/
namespace L2
open PySem PySem.Spec PyProof.Rows
section
variable {X : Cx}
def rAddS : R2 := fun x y H Q => ∃ i j, x = .str i ∧ y = .str j ∧ i.length + j.length ≤ sizeLine ∧ Q (.str (i ++ j)) H
end
namespace Rd
section
variable {H : Hp} {Q : VK}
theorem addS {i j : Str} : rAddS (.str i) (.str j) H Q = (i.length + j.length ≤ sizeLine ∧ Q (.str (i ++ j)) H) := propext ⟨fun ⟨_, _, e, f, q⟩ => by cases e; cases f; exact q, fun q => ⟨i, j, rfl, rfl, q⟩⟩
theorem ixS {z : Str} {i : Int} : rIxS (.str z) (.int i) H Q = ∃ c, z.length ≤ sizeLine ∧ atI z.cps.toList i = some c ∧ Q (.str ⟨#[c]⟩) H := propext ⟨fun ⟨_, _, c, e, f, q⟩ => by cases e; cases f; exact ⟨c, q⟩, fun ⟨c, q⟩ => ⟨z, i, c, rfl, rfl, q⟩⟩
end
end Rd
theorem New.sq {H H2 : Hp} {p : Addr} {o : HO} (n : New H p o H2) : Same H H2 := n.same
end L2
set_option Elab.async false
set_option linter.all false
set_option maxRecDepth 100000
set_option maxHeartbeats 4000000
/-! zip(a, b) walked by two names, each of a and b a list or a tuple. -/
namespace L2
open PySem PySem.Spec PyProof.Rows
/-- a list or a tuple -/
inductive Sr where | lst | tup
def Sr.IsIt (k : Sr) (h : Heap) (it l : Addr) (i : Nat) : Prop := match k with | .lst => h.IsListIter it l i | .tup => h.IsTupleIter it l i
def Sr.IsSq (k : Sr) (h : Heap) (l : Addr) (xs : Array Value) : Prop := match k with | .lst => h.IsList l xs | .tup => h.IsTuple l xs
def Sr.Ab (k : Sr) (K : PySem.W.Frag) (H : Hp) (a : Addr) (xs : List V) : Prop := match k with | .lst => SqL K H a xs | .tup => SqT K H a xs
def Sr.itc (k : Sr) : String := match k with | .lst => "list_iterator" | .tup => "tuple_iterator"
theorem Sr.IsIt.kp {k : Sr} {h h' : Heap} {it l : Addr} {i : Nat} (x : k.IsIt h it l i) (e : ∀ o, h.get? it = some o → h'.get? it = some o) : k.IsIt h' it l i := by
  cases k <;> (obtain ⟨o, a, b⟩ := x; exact ⟨o, e o a, b⟩)
theorem Sr.IsSq.kp {k : Sr} {h h' : Heap} {l : Addr} {xs : Array Value} (x : k.IsSq h l xs) (e : ∀ o, h.get? l = some o → h'.get? l = some o) : k.IsSq h' l xs := by
  cases k <;> (obtain ⟨o, a, b⟩ := x; exact ⟨o, e o a, b⟩)
theorem Sr.IsIt.ob {k : Sr} {h : Heap} {it l : Addr} {i : Nat} (x : k.IsIt h it l i) : ∃ o, h.get? it = some o ∧ ∀ v, o.data ≠ .cell v := by
  cases k <;> (obtain ⟨o, a, b, d⟩ := x; exact ⟨o, a, fun v z => by rw [d] at z; cases z⟩)
theorem Sr.IsSq.lt {k : Sr} {h : Heap} {l : Addr} {xs : Array Value} (x : k.IsSq h l xs) : l < h.objs.size := by
  cases k <;> (obtain ⟨o, a, b⟩ := x; exact Heap.lt_size a)
theorem Sr.IsIt.lt {k : Sr} {h : Heap} {it l : Addr} {i : Nat} (x : k.IsIt h it l i) : it < h.objs.size := by
  obtain ⟨o, a, _⟩ := x.ob; exact Heap.lt_size a
section
variable {prog : Program} {w : World} {A : Around} {E : Value → Shared → Prop} {s : Shared}
theorem Sr.nx (k : Sr) {it l : Addr} {i : Nat} {items : Array Value} {x : Value} {Q : Value → Shared → Prop} (hit : k.IsIt s.heap it l i) (hl : k.IsSq s.heap l items) (hx : items[i]? = some x)
    (hQ : ∀ m, k.IsIt m it l (i + 1) → Heap.SameBut it s.heap m → Q x { s with heap := m }) : wpAny (model prog w) A (Builtin.SmallTypes.nextOf (.ref it)) Q E s := by
  cases k with
  | lst => exact wpAny_nextOf_list_item hit hl hx hQ
  | tup =>
    have hit : s.heap.IsTupleIter it l i := hit
    obtain ⟨o, ho, hc, hd⟩ := id hit
    obtain ⟨ol, hol, _, nl, hdl⟩ := hl
    have ht := hit.typeIs
    unfold Builtin.SmallTypes.nextOf
    refine wpAny_bind (wpAny_callSpecial?_slot (name := Str.ofString "__next__") ht F.slot_tuple_iterator_next (wpAny_call_entry F.slot_tuple_iterator_next ht F.entry_tuple_iterator_next ?_ (F.args_tuple_iterator_next_1 _)))
    show wpAny _ _ (field (.ref it) 0 >>= _) _ _ s; refine wpAny_bind (wpAny_field ho hd (x := .ref l) rfl ?_)
    show wpAny _ _ (if (Value.ref l == Value.none) = true then _ else _) _ _ s; rw [if_neg (show ¬ ((Value.ref l == Value.none) = true) from Bool.false_ne_true)]
    show wpAny _ _ (field (.ref it) 1 >>= _) _ _ s; refine wpAny_bind (wpAny_field ho hd (x := .int i 0) rfl ?_)
    show wpAny _ _ (seqItems? (.ref l) >>= _) _ _ s; refine wpAny_bind (wpAny_seqItems hol hdl ?_)
    simp only [Int.toNat_natCast, hx]
    refine wpAny_bind (wpAny_setField ho hd (by simp) (wpAny_pure ⟨x, rfl, wpAny_pure (hQ _ ⟨_, Heap.get?_update_self _ ho (Obj.isFreed_of_fields (Obj.data_mapFields hd _)), (Obj.cls_mapFields ..).trans hc, by rw [Obj.data_mapFields hd]; simp [rawInt]⟩ (Heap.SameBut.update ..))⟩))
theorem Sr.nxEnd (k : Sr) {it l : Addr} {i : Nat} {items : Array Value} {Q : Value → Shared → Prop} (hh : A.handled = none) (hit : k.IsIt s.heap it l i) (hl : k.IsSq s.heap l items) (hx : items[i]? = none)
    (hE : ∀ m e, Heap.ExtBut it s.heap m → (∃ o, m.get? e = some o ∧ o.cls = .type "StopIteration") → E (.ref e) { s with heap := m }) : wpAny (model prog w) A (Builtin.SmallTypes.nextOf (.ref it)) Q E s := by
  cases k with
  | lst => exact wpAny_nextOf_list_end hh hit hl hx hE
  | tup =>
    have hit : s.heap.IsTupleIter it l i := hit
    obtain ⟨o, ho, hc, hd⟩ := id hit
    obtain ⟨ol, hol, _, nl, hdl⟩ := hl
    have ht := hit.typeIs
    unfold Builtin.SmallTypes.nextOf
    refine wpAny_bind (wpAny_callSpecial?_slot (name := Str.ofString "__next__") ht F.slot_tuple_iterator_next (wpAny_call_entry F.slot_tuple_iterator_next ht F.entry_tuple_iterator_next ?_ (F.args_tuple_iterator_next_1 _)))
    show wpAny _ _ (field (.ref it) 0 >>= _) _ _ s; refine wpAny_bind (wpAny_field ho hd (x := .ref l) rfl ?_)
    show wpAny _ _ (if (Value.ref l == Value.none) = true then _ else _) _ _ s; rw [if_neg (show ¬ ((Value.ref l == Value.none) = true) from Bool.false_ne_true)]
    show wpAny _ _ (field (.ref it) 1 >>= _) _ _ s; refine wpAny_bind (wpAny_field ho hd (x := .int i 0) rfl ?_)
    show wpAny _ _ (seqItems? (.ref l) >>= _) _ _ s; refine wpAny_bind (wpAny_seqItems hol hdl ?_)
    simp only [Int.toNat_natCast, hx]
    refine wpAny_bind (wpAny_rule (wpAny_bind (wpAny_setField ho hd (by simp) ?_)))
    show wpAny _ _ (newExc (.type "StopIteration") [] >>= _) _ _ _; refine wpAny_bind ?_; simp only [newExc, newTuple]
    refine wpAny_bind (wpAny_newObj_type ?_ (by size_fits)); refine wpAny_bind (m := firstArgMember _ _) (wpAny_of_eq (a := Value.none) (by first | rfl | (simp only [firstArgMember]; rfl)) ?_)
    refine wpAny_newObj_type ?_ (by size_fits); simp only [raiseNew]; refine wpAny_bind (wpAny_handled ?_)
    first | rw [show A.in1.handled = none from hh] | rw [hh]
    refine wpAny_bind (wpAny_pure (wpAny_throw (hE _ _ (((Heap.SameBut.update ..).extBut.push _).push _) ⟨_, Heap.get?_push_size _ rfl, rfl⟩)))
theorem Sr.iter (k : Sr) {l : Addr} {xs : Array Value} {Q : Value → Shared → Prop} (h : k.IsSq s.heap l xs)
    (hQ : Q (.ref s.heap.objs.size) { s with heap := s.heap.push { cls := .type k.itc, data := .fields #[.ref l, .int 0 0] } }) : wpAny (model prog w) A (pyIter (.ref l)) Q E s := by
  cases k with
  | lst => exact wpAny_pyIter_list h hQ
  | tup => exact wpAny_pyIter_tuple h hQ
theorem Sr.it0 (k : Sr) {h : Heap} {it l : Addr} (e : h.get? it = some { cls := .type k.itc, data := .fields #[.ref l, .int 0 0] }) : k.IsIt h it l 0 := by
  cases k <;> exact ⟨_, e, rfl, rfl⟩
/-- zip's next where its own tuple is free -/
theorem zq_item {k1 k2 : Sr} {z ti to i1 i2 l1 l2 : Addr} {n1 n2 : Nat} {xs ys : Array Value} {x y a b : Value} {Q : Value → Shared → Prop} (D : ZipApart z ti to i1 i2 l1 l2)
    (hz : IsZip s.heap z ti to .none) (hti : IsPair s.heap ti (.ref i1) (.ref i2)) (hto : IsPair s.heap to a b) (h1 : k1.IsIt s.heap i1 l1 n1) (h2 : k2.IsIt s.heap i2 l2 n2)
    (hl1 : k1.IsSq s.heap l1 xs) (hl2 : k2.IsSq s.heap l2 ys) (hx : xs[n1]? = some x) (hy : ys[n2]? = some y)
    (hQ : ∀ m, IsZip m z ti to (rawInt s.heap.objs.size) → IsPair m to x y → k1.IsIt m i1 l1 (n1 + 1) → k2.IsIt m i2 l2 (n2 + 1) → IsPair m s.heap.objs.size x y → m.objs.size = s.heap.objs.size + 1 →
      (∀ c o, c ≠ z → c ≠ to → c ≠ i1 → c ≠ i2 → s.heap.get? c = some o → m.get? c = some o) → Q (.ref s.heap.objs.size) { s with heap := m }) :
    wpAny (model prog w) A (Builtin.«zip.__next__» ⟨[.ref z], []⟩) (fun fin s' => ∃ v, fin = .done (.ret v) ∧ Q v s') E s := by
  show wpAny _ _ (field (.ref z) 2 >>= _) _ _ s; refine wpAny_bind (wpAny_field hz rfl (x := .bool false) rfl ?_)
  show wpAny _ _ (field (.ref z) 3 >>= _) _ _ s; refine wpAny_bind (wpAny_field hz rfl (x := .ref ti) rfl (wpAny_bind (wpAny_seqItems hti rfl ?_)))
  show wpAny _ _ (Builtin.SmallTypes.ownedTupleIsFree (.ref z) >>= _) _ _ s; refine wpAny_bind ?_; unfold Builtin.SmallTypes.ownedTupleIsFree
  refine wpAny_bind (wpAny_field hz rfl (x := .none) rfl (wpAny_pure ?_)); simp only [if_true]
  refine wpAny_bind (wpAny_rule (wpAny_bind (wpAny_field hz rfl (x := .ref to) rfl (wpAny_bind (wpAny_setField_rec hz (by simp) fun m1 z1 s1 => ?_)))))
  replace z1 : IsZip m1 z ti to .ellipsis := z1
  refine wpAny_bind ?_; simp only [List.zipIdx_cons, List.zipIdx_nil, List.forIn_cons, List.forIn_nil]
  refine wpAny_bind (wpAny_bind (wpAny_onRaise ?_)); show wpAny _ _ (Builtin.SmallTypes.nextOf (.ref i1) >>= _) _ _ { s with heap := m1 }
  refine wpAny_bind (k1.nx (h1.kp fun o e => s1.extBut _ _ D.i1z e) (hl1.kp fun o e => s1.extBut _ _ D.l1z e) hx fun m2 j1 s2 => wpAny_pure ?_)
  have t2 : IsPair m2 to a b := s2.extBut _ _ D.TOi1 (s1.extBut _ _ D.TOz hto)
  refine wpAny_bind (wpAny_seqItems t2 rfl (wpAny_bind (wpAny_updateSeq_pair t2 fun m3 t3 s3 => ?_)))
  replace t3 : IsPair m3 to x b := t3
  refine wpAny_bind (wpAny_letGo (wpAny_pure ?_))
  refine wpAny_bind (wpAny_bind (wpAny_onRaise ?_)); show wpAny _ _ (Builtin.SmallTypes.nextOf (.ref i2) >>= _) _ _ { s with heap := m3 }
  have k13 : ∀ c o, c ≠ z → c ≠ to → c ≠ i1 → s.heap.get? c = some o → m3.get? c = some o := fun c o c1 c2 c3 e => s3.extBut _ _ c2 (s2.extBut _ _ c3 (s1.extBut _ _ c1 e))
  refine wpAny_bind (k2.nx (h2.kp fun o e => k13 _ _ D.i2z D.TOi2.symm D.i12.symm e) (hl2.kp fun o e => k13 _ _ D.l2z D.l2TO D.l2i1 e) hy fun m4 j2 s4 => wpAny_pure ?_)
  have t4 : IsPair m4 to x b := s4.extBut _ _ D.TOi2 t3
  refine wpAny_bind (wpAny_seqItems t4 rfl (wpAny_bind (wpAny_updateSeq_pair t4 fun m5 t5 s5 => ?_)))
  replace t5 : IsPair m5 to x y := t5
  refine wpAny_bind (wpAny_letGo (wpAny_pure (wpAny_pure ?_))); refine wpAny_bind (wpAny_seqItems t5 rfl (wpAny_bind (wpAny_newTuple ?_)))
  have sz : m5.objs.size = s.heap.objs.size := by rw [s5.1, s4.1, s3.1, s2.1, s1.1]
  have z5 : IsZip m5 z ti to .ellipsis := s5.extBut _ _ D.TOz.symm (s4.extBut _ _ D.i2z.symm (s3.extBut _ _ D.TOz.symm (s2.extBut _ _ D.i1z.symm z1)))
  have k5 : ∀ c o, c ≠ z → c ≠ to → c ≠ i1 → c ≠ i2 → s.heap.get? c = some o → m5.get? c = some o := fun c o c1 c2 c3 c4 e => s5.extBut _ _ c2 (s4.extBut _ _ c4 (k13 c o c1 c2 c3 e))
  have p1 : k1.IsIt m5 i1 l1 (n1 + 1) := j1.kp fun o e => s5.extBut _ _ D.TOi1.symm (s4.extBut _ _ D.i12 (s3.extBut _ _ D.TOi1.symm e))
  have p2 : k2.IsIt m5 i2 l2 (n2 + 1) := j2.kp fun o e => s5.extBut _ _ D.TOi2.symm e
  have zlt : z < m5.objs.size := Heap.lt_size z5
  show wpAny _ _ (Builtin.SmallTypes.ownedTupleHandOut (.ref z) (.ref m5.objs.size) >>= _) _ _ _; refine wpAny_bind ?_; unfold Builtin.SmallTypes.ownedTupleHandOut
  have z6 : IsZip (m5.push { cls := .type "tuple", data := .seq #[x, y] }) z ti to .ellipsis := Heap.get?_push_of_some _ z5
  refine wpAny_bind (wpAny_setField_rec z6 (by simp) fun m7 z7 s7 => ?_)
  replace z7 : IsZip m7 z ti to (rawInt m5.objs.size) := z7
  refine wpAny_setField_rec z7 (by simp) fun m8 z8 s8 => ?_
  replace z8 : IsZip m8 z ti to (rawInt m5.objs.size) := z8
  have up : ∀ c o, c ≠ z → m5.get? c = some o → m8.get? c = some o := fun c o c1 e => s8.extBut _ _ c1 (s7.extBut _ _ c1 (Heap.get?_push_of_some _ e))
  have t8 : IsPair m8 m5.objs.size x y := s8.extBut _ _ (Nat.ne_of_gt zlt) (s7.extBut _ _ (Nat.ne_of_gt zlt) (Heap.get?_push_size _ rfl))
  have n8 : m8.objs.size = m5.objs.size + 1 := by rw [s8.1, s7.1, Heap.size_push]
  rw [sz] at z8 t8 n8
  refine wpAny_pure ⟨_, rfl, ?_⟩
  show Q (.ref m5.objs.size) { s with heap := m8 }
  rw [sz]
  exact hQ m8 z8 (up _ _ D.TOz t5) (p1.kp fun o e => up _ o D.i1z e) (p2.kp fun o e => up _ o D.i2z e) t8 n8 fun c o c1 c2 c3 c4 e => up c o c1 (k5 c o c1 c2 c3 c4 e)
theorem zq_end {k1 k2 : Sr} {z ti to i1 i2 l1 l2 : Addr} {n1 n2 : Nat} {xs ys : Array Value} {a b : Value} {Q : Fin → Shared → Prop} (hh : A.handled = none) (D : ZipApart z ti to i1 i2 l1 l2)
    (hz : IsZip s.heap z ti to .none) (hti : IsPair s.heap ti (.ref i1) (.ref i2)) (hto : IsPair s.heap to a b) (h1 : k1.IsIt s.heap i1 l1 n1) (h2 : k2.IsIt s.heap i2 l2 n2)
    (hl1 : k1.IsSq s.heap l1 xs) (hl2 : k2.IsSq s.heap l2 ys) (hend : xs[n1]? = none ∨ ys[n2]? = none)
    (hE : ∀ m e, (∀ c o, c ≠ z → c ≠ to → c ≠ i1 → c ≠ i2 → s.heap.get? c = some o → m.get? c = some o) → (∃ o, m.get? e = some o ∧ o.cls = .type "StopIteration") → E (.ref e) { s with heap := m }) :
    wpAny (model prog w) A (Builtin.«zip.__next__» ⟨[.ref z], []⟩) Q E s := by
  show wpAny _ _ (field (.ref z) 2 >>= _) _ _ s; refine wpAny_bind (wpAny_field hz rfl (x := .bool false) rfl ?_)
  show wpAny _ _ (field (.ref z) 3 >>= _) _ _ s; refine wpAny_bind (wpAny_field hz rfl (x := .ref ti) rfl (wpAny_bind (wpAny_seqItems hti rfl ?_)))
  show wpAny _ _ (Builtin.SmallTypes.ownedTupleIsFree (.ref z) >>= _) _ _ s; refine wpAny_bind ?_; unfold Builtin.SmallTypes.ownedTupleIsFree
  refine wpAny_bind (wpAny_field hz rfl (x := .none) rfl (wpAny_pure ?_)); simp only [if_true]
  refine wpAny_bind (wpAny_rule (wpAny_bind (wpAny_field hz rfl (x := .ref to) rfl (wpAny_bind (wpAny_setField_rec hz (by simp) fun m1 z1 s1 => ?_)))))
  replace z1 : IsZip m1 z ti to .ellipsis := z1
  refine wpAny_bind ?_; simp only [List.zipIdx_cons, List.zipIdx_nil, List.forIn_cons, List.forIn_nil]
  refine wpAny_bind (wpAny_bind (wpAny_onRaise ?_)); show wpAny _ _ (Builtin.SmallTypes.nextOf (.ref i1) >>= _) _ _ { s with heap := m1 }
  have g1 := h1.kp fun o e => s1.extBut _ _ D.i1z e
  have g2 := hl1.kp fun o e => s1.extBut _ _ D.l1z e
  cases hx : xs[n1]? with
  | none =>
    refine wpAny_bind (k1.nxEnd hh g1 g2 hx fun m2 e s2 he => ?_)
    obtain ⟨oe, hoe, hce⟩ := he
    have z2 : IsZip m2 z ti to .ellipsis := s2 _ _ D.i1z.symm z1
    have ne : e ≠ z := fun q => by subst q; rw [z2] at hoe; cases hoe; simp at hce
    refine wpAny_setField_rec z2 (by simp) fun m3 _ s3 => hE m3 e (fun c o c1 _ c3 _ q => s3.extBut _ _ c1 (s2 _ _ c3 (s1.extBut _ _ c1 q))) ⟨oe, s3.extBut _ _ ne hoe, hce⟩
  | some x =>
    have hy : ys[n2]? = none := by rcases hend with h | h; rw [hx] at h; cases h; exact h
    refine wpAny_bind (k1.nx g1 g2 hx fun m2 j1 s2 => wpAny_pure ?_)
    have t2 : IsPair m2 to a b := s2.extBut _ _ D.TOi1 (s1.extBut _ _ D.TOz hto)
    refine wpAny_bind (wpAny_seqItems t2 rfl (wpAny_bind (wpAny_updateSeq_pair t2 fun m3 t3 s3 => ?_)))
    refine wpAny_bind (wpAny_letGo (wpAny_pure ?_))
    refine wpAny_bind (wpAny_bind (wpAny_onRaise ?_)); show wpAny _ _ (Builtin.SmallTypes.nextOf (.ref i2) >>= _) _ _ { s with heap := m3 }
    have k13 : ∀ c o, c ≠ z → c ≠ to → c ≠ i1 → s.heap.get? c = some o → m3.get? c = some o := fun c o c1 c2 c3 e => s3.extBut _ _ c2 (s2.extBut _ _ c3 (s1.extBut _ _ c1 e))
    refine wpAny_bind (k2.nxEnd hh (h2.kp fun o e => k13 _ _ D.i2z D.TOi2.symm D.i12.symm e) (hl2.kp fun o e => k13 _ _ D.l2z D.l2TO D.l2i1 e) hy fun m4 e s4 he => ?_)
    obtain ⟨oe, hoe, hce⟩ := he
    have z4 : IsZip m4 z ti to .ellipsis := s4 _ _ D.i2z.symm (s3.extBut _ _ D.TOz.symm (s2.extBut _ _ D.i1z.symm z1))
    have ne : e ≠ z := fun q => by subst q; rw [z4] at hoe; cases hoe; simp at hce
    refine wpAny_setField_rec z4 (by simp) fun m5 _ s5 => hE m5 e (fun c o c1 c2 c3 c4 q => s5.extBut _ _ c1 (s4 _ _ c4 (k13 c o c1 c2 c3 q))) ⟨oe, s5.extBut _ _ ne hoe, hce⟩
theorem zq_next {k1 k2 : Sr} {z ti to i1 i2 l1 l2 : Addr} {n1 n2 : Nat} {xs ys : Array Value} {x y a b : Value} {Q : Option Value → Shared → Prop} (D : ZipApart z ti to i1 i2 l1 l2)
    (hz : IsZip s.heap z ti to .none) (hti : IsPair s.heap ti (.ref i1) (.ref i2)) (hto : IsPair s.heap to a b) (h1 : k1.IsIt s.heap i1 l1 n1) (h2 : k2.IsIt s.heap i2 l2 n2)
    (hl1 : k1.IsSq s.heap l1 xs) (hl2 : k2.IsSq s.heap l2 ys) (hx : xs[n1]? = some x) (hy : ys[n2]? = some y)
    (hQ : ∀ m, IsZip m z ti to (rawInt s.heap.objs.size) → IsPair m to x y → k1.IsIt m i1 l1 (n1 + 1) → k2.IsIt m i2 l2 (n2 + 1) → IsPair m s.heap.objs.size x y → m.objs.size = s.heap.objs.size + 1 →
      (∀ c o, c ≠ z → c ≠ to → c ≠ i1 → c ≠ i2 → s.heap.get? c = some o → m.get? c = some o) → Q (some (.ref s.heap.objs.size)) { s with heap := m }) :
    wpAny (model prog w) A (pyNext (.ref z)) Q E s := by
  have ht : s.TypeIs (.ref z) "zip" := ⟨_, hz, rfl⟩
  unfold pyNext
  exact wpAny_bind (wpAny_attempt (wpAny_callSpecial?_slot (name := Str.ofString "__next__") ht F.slot_zip_next (wpAny_call_entry F.slot_zip_next ht F.entry_zip_next
      (zq_item D hz hti hto h1 h2 hl1 hl2 hx hy fun m a1 a2 a3 a4 a5 a6 a7 => wpAny_pure (hQ m a1 a2 a3 a4 a5 a6 a7)) (F.args_zip_next_1 _))))
theorem zq_done {k1 k2 : Sr} {z ti to i1 i2 l1 l2 : Addr} {n1 n2 : Nat} {xs ys : Array Value} {a b : Value} {Q : Option Value → Shared → Prop} (hh : A.handled = none) (D : ZipApart z ti to i1 i2 l1 l2)
    (hz : IsZip s.heap z ti to .none) (hti : IsPair s.heap ti (.ref i1) (.ref i2)) (hto : IsPair s.heap to a b) (h1 : k1.IsIt s.heap i1 l1 n1) (h2 : k2.IsIt s.heap i2 l2 n2)
    (hl1 : k1.IsSq s.heap l1 xs) (hl2 : k2.IsSq s.heap l2 ys) (hend : xs[n1]? = none ∨ ys[n2]? = none)
    (hQ : ∀ m, (∀ c o, c ≠ z → c ≠ to → c ≠ i1 → c ≠ i2 → s.heap.get? c = some o → m.get? c = some o) → Q none { s with heap := m }) : wpAny (model prog w) A (pyNext (.ref z)) Q E s := by
  have ht : s.TypeIs (.ref z) "zip" := ⟨_, hz, rfl⟩
  unfold pyNext
  refine wpAny_bind (wpAny_attempt (wpAny_callSpecial?_slot (name := Str.ofString "__next__") ht F.slot_zip_next (wpAny_call_entry F.slot_zip_next ht F.entry_zip_next
      (zq_end hh D hz hti hto h1 h2 hl1 hl2 hend fun m e hk he => ?_) (F.args_zip_next_1 _))))
  obtain ⟨o, ho, hc⟩ := he
  exact wpAny_bind (wpAny_isInstance (T := "StopIteration") (b := true) ⟨o, ho, hc⟩ isSubtype_stop (wpAny_pure (hQ _ hk)))
end
abbrev zqA (k1 : Sr) (h : Heap) (a : Addr) : Heap := h.push { cls := .type k1.itc, data := .fields #[.ref a, .int 0 0] }
abbrev zqB (k1 k2 : Sr) (h : Heap) (a b : Addr) : Heap := (zqA k1 h a).push { cls := .type k2.itc, data := .fields #[.ref b, .int 0 0] }
abbrev zqC (k1 k2 : Sr) (h : Heap) (a b : Addr) : Heap := (zqB k1 k2 h a b).push { cls := .type "tuple", data := .seq #[.ref h.objs.size, .ref (zqA k1 h a).objs.size] }
abbrev zqD (k1 k2 : Sr) (h : Heap) (a b : Addr) : Heap := (zqC k1 k2 h a b).push { cls := .type "tuple", data := .seq #[.none, .none] }
abbrev zqE (k1 k2 : Sr) (h : Heap) (a b : Addr) : Heap := (zqD k1 k2 h a b).push { cls := .type "zip", data := .fields #[.none, .bool false, .bool false, .ref (zqB k1 k2 h a b).objs.size, .ref (zqC k1 k2 h a b).objs.size] }
theorem meets_zq (k1 k2 : Sr) (l1 l2 : Addr) (xs ys : Array Value) :
    Meets (Builtin.«zip.__new__» ⟨[.type "zip", .ref l1, .ref l2], []⟩) (fun _ R s => k1.IsSq s.heap l1 xs ∧ k2.IsSq s.heap l2 ys ∧ R (.ok (.ret (.ref (zqD k1 k2 s.heap l1 l2).objs.size))) { s with heap := zqE k1 k2 s.heap l1 l2 }) :=
  .of_wp fun prog w A R s h => by
    obtain ⟨hp, g, d, tk, os⟩ := s
    obtain ⟨q1, q2, h⟩ := h
    have hsub := sub_zip
    have e1 : k1.IsSq (Shared.heap ⟨hp, g, d, tk, os⟩) l1 xs := q1
    have e2 : k2.IsSq (Shared.heap ⟨hp.push { cls := .type k1.itc, data := .fields #[.ref l1, .int 0 0] }, g, d, tk, os⟩) l2 ys := q2.kp fun o e => Heap.get?_push_of_some _ e
    wp_walk using k1.iter e1, k2.iter e2
    exact ⟨_, rfl, h⟩
section
variable {prog : Program} {w : World} {A : Around} {E : Value → Shared → Prop} {s : Shared}
theorem call_zq (k1 k2 : Sr) {l1 l2 : Addr} {xs ys : Array Value} {Q : Value → Shared → Prop} (hl1 : k1.IsSq s.heap l1 xs) (hl2 : k2.IsSq s.heap l2 ys)
    (h : ∀ m, IsZip m (s.heap.objs.size + 4) (s.heap.objs.size + 2) (s.heap.objs.size + 3) .none → IsPair m (s.heap.objs.size + 2) (.ref s.heap.objs.size) (.ref (s.heap.objs.size + 1)) →
      IsPair m (s.heap.objs.size + 3) .none .none → k1.IsIt m s.heap.objs.size l1 0 → k2.IsIt m (s.heap.objs.size + 1) l2 0 → m.objs.size = s.heap.objs.size + 5 →
      (∀ c o, s.heap.get? c = some o → m.get? c = some o) → Q (.ref (s.heap.objs.size + 4)) { s with heap := m }) :
    wpAny (model prog w) A (call (.type "zip") [.ref l1, .ref l2]) Q E s := by
  refine callType_new F.called_zip (by decide) (F.typeCall_zip_2 _ _) (F.newCall_zip_2 _ _) (fun obj => F.args_object_init_3 obj _ _) F.entry_zip_new (meets_zq k1 k2 l1 l2 xs ys) ⟨hl1, hl2, ?_⟩
  have a1 : (zqA k1 s.heap l1).objs.size = s.heap.objs.size + 1 := Heap.size_push ..
  have a2 : (zqB k1 k2 s.heap l1 l2).objs.size = s.heap.objs.size + 2 := by rw [Heap.size_push, a1]
  have a3 : (zqC k1 k2 s.heap l1 l2).objs.size = s.heap.objs.size + 3 := by rw [Heap.size_push, a2]
  have a4 : (zqD k1 k2 s.heap l1 l2).objs.size = s.heap.objs.size + 4 := by rw [Heap.size_push, a3]
  have a5 : (zqE k1 k2 s.heap l1 l2).objs.size = s.heap.objs.size + 5 := by rw [Heap.size_push, a4]
  have g5 : (zqE k1 k2 s.heap l1 l2).get? (zqD k1 k2 s.heap l1 l2).objs.size = some _ := Heap.get?_push_size _ rfl
  have g4 : (zqE k1 k2 s.heap l1 l2).get? (zqC k1 k2 s.heap l1 l2).objs.size = some _ := Heap.get?_push_of_some _ (Heap.get?_push_size _ rfl)
  have g3 : (zqE k1 k2 s.heap l1 l2).get? (zqB k1 k2 s.heap l1 l2).objs.size = some _ := Heap.get?_push_of_some _ (Heap.get?_push_of_some _ (Heap.get?_push_size _ rfl))
  have g2 : (zqE k1 k2 s.heap l1 l2).get? (zqA k1 s.heap l1).objs.size = some _ := Heap.get?_push_of_some _ (Heap.get?_push_of_some _ (Heap.get?_push_of_some _ (Heap.get?_push_size _ rfl)))
  have g1 : (zqE k1 k2 s.heap l1 l2).get? s.heap.objs.size = some _ := Heap.get?_push_of_some _ (Heap.get?_push_of_some _ (Heap.get?_push_of_some _ (Heap.get?_push_of_some _ (Heap.get?_push_size _ rfl))))
  show _ ∧ _
  rw [a2, a3, a4] at g5
  rw [a1, a2] at g3
  rw [a3] at g4
  rw [a1] at g2
  rw [a4]
  exact ⟨⟨_, g5, rfl⟩, h _ g5 g3 g4 (k1.it0 g1) (k2.it0 g2) a5 fun c o q => Heap.get?_push_of_some _ (Heap.get?_push_of_some _ (Heap.get?_push_of_some _ (Heap.get?_push_of_some _ (Heap.get?_push_of_some _ q))))⟩
end
abbrev IsZipT (h : Heap) (z ti to T : Addr) (b : Bool) : Prop := h.get? z = some { cls := .type "zip", dict := none, data := .fields #[rawInt T, .bool b, .bool false, .ref ti, .ref to], slots := #[] }
section
variable {prog : Program} {w : World} {A : Around} {E : Value → Shared → Prop} {s : Shared}
theorem wpAny_aliv {M : Model} {a : Addr} {o : Obj} {Q : Option Obj → Shared → Prop} (h : s.heap.get? a = some o) (hq : Q (some o) s) : wpAny M A (loadIfAlive a) Q E s := fun Γ p hc => by
  unfold loadIfAlive
  rw [Sem.wp_loadIfAlive, h]
  exact hq
theorem zt_item {k1 k2 : Sr} {z ti to i1 i2 l1 l2 T : Addr} {b : Bool} {o : Obj} {n1 n2 : Nat} {xs ys : Array Value} {x y : Value} {Q : Value → Shared → Prop} (D : ZipApart z ti to i1 i2 l1 l2)
    (hz : IsZipT s.heap z ti to T b) (hti : IsPair s.heap ti (.ref i1) (.ref i2)) (hT : s.heap.get? T = some o) (h1 : k1.IsIt s.heap i1 l1 n1) (h2 : k2.IsIt s.heap i2 l2 n2)
    (hl1 : k1.IsSq s.heap l1 xs) (hl2 : k2.IsSq s.heap l2 ys) (hx : xs[n1]? = some x) (hy : ys[n2]? = some y)
    (hQ : ∀ m b', IsZipT m z ti to T b' → k1.IsIt m i1 l1 (n1 + 1) → k2.IsIt m i2 l2 (n2 + 1) → IsPair m s.heap.objs.size x y → m.objs.size = s.heap.objs.size + 1 →
      (∀ c o, c ≠ z → c ≠ i1 → c ≠ i2 → s.heap.get? c = some o → m.get? c = some o) → Q (.ref s.heap.objs.size) { s with heap := m }) :
    wpAny (model prog w) A (Builtin.«zip.__next__» ⟨[.ref z], []⟩) (fun fin s' => ∃ v, fin = .done (.ret v) ∧ Q v s') E s := by
  show wpAny _ _ (field (.ref z) 2 >>= _) _ _ s; refine wpAny_bind (wpAny_field hz rfl (x := .bool false) rfl ?_)
  show wpAny _ _ (field (.ref z) 3 >>= _) _ _ s; refine wpAny_bind (wpAny_field hz rfl (x := .ref ti) rfl (wpAny_bind (wpAny_seqItems hti rfl ?_)))
  show wpAny _ _ (Builtin.SmallTypes.ownedTupleIsFree (.ref z) >>= _) _ _ s; refine wpAny_bind ?_; unfold Builtin.SmallTypes.ownedTupleIsFree
  refine wpAny_bind (wpAny_field hz rfl (x := rawInt T) rfl ?_)
  have alive : ∀ {Q' : Option Obj → Shared → Prop}, Q' (some o) s → wpAny (model prog w) A (loadIfAlive ((T : Int)).toNat) Q' E s := fun hq => by
    rw [Int.toNat_natCast]
    exact wpAny_aliv hT hq
  refine wpAny_bind (alive ?_)
  rw [if_neg (show ¬ ((some o).isNone = true) from Bool.false_ne_true)]
  refine wpAny_bind (wpAny_field hz rfl (x := .bool b) rfl ?_)
  have lst : ∀ m b' m2 m3, IsZipT m z ti to T b' → Heap.SameBut z s.heap m → k1.IsIt m2 i1 l1 (n1 + 1) → Heap.SameBut i1 m m2 → k2.IsIt m3 i2 l2 (n2 + 1) → Heap.SameBut i2 m2 m3 →
      Q (.ref m3.objs.size) { s with heap := m3.push { cls := .type "tuple", data := .seq #[x, y] } } := by
    intro m b' m2 m3 z0 s0 j1 s2 j2 s3
    have sz : m3.objs.size = s.heap.objs.size := by rw [s3.1, s2.1, s0.1]
    rw [sz]
    refine hQ _ b' (Heap.get?_push_of_some _ (s3.extBut _ _ D.i2z.symm (s2.extBut _ _ D.i1z.symm z0))) (j1.kp fun o e => Heap.get?_push_of_some _ (s3.extBut _ _ D.i12 e)) (j2.kp fun o e => Heap.get?_push_of_some _ e) ?_ (by rw [Heap.size_push, sz]) ?_
    · have g : (m3.push { cls := .type "tuple", data := .seq #[x, y] }).get? m3.objs.size = some { cls := .type "tuple", data := .seq #[x, y] } := Heap.get?_push_size _ rfl
      rw [sz] at g
      exact g
    · exact fun c o c1 c2 c3 e => Heap.get?_push_of_some _ (s3.extBut _ _ c3 (s2.extBut _ _ c2 (s0.extBut _ _ c1 e)))
  cases b
  · rw [if_pos (by rfl)]
    refine wpAny_bind (wpAny_setField_rec hz (by simp) fun m0 z0 s0 => ?_)
    replace z0 : IsZipT m0 z ti to T true := z0
    refine wpAny_pure ?_
    simp only [Bool.false_eq_true, if_false]
    refine wpAny_bind ?_
    simp only [← Array.forIn_toList, List.forIn_cons, List.forIn_nil]
    refine wpAny_bind (wpAny_bind (wpAny_holding ?_))
    show wpAny _ _ (Builtin.SmallTypes.nextOf (.ref i1) >>= _) _ _ { s with heap := m0 }
    refine wpAny_bind (k1.nx (h1.kp fun o e => s0.extBut _ _ D.i1z e) (hl1.kp fun o e => s0.extBut _ _ D.l1z e) hx fun m2 j1 s2 => wpAny_pure (wpAny_pure ?_))
    refine wpAny_bind (wpAny_bind (wpAny_holding ?_))
    show wpAny _ _ (Builtin.SmallTypes.nextOf (.ref i2) >>= _) _ _ { s with heap := m2 }
    refine wpAny_bind (k2.nx (h2.kp fun o e => s2.extBut _ _ D.i12.symm (s0.extBut _ _ D.i2z e)) (hl2.kp fun o e => s2.extBut _ _ D.l2i1 (s0.extBut _ _ D.l2z e)) hy fun m3 j2 s3 => wpAny_pure (wpAny_pure ?_))
    exact wpAny_pure (wpAny_bind (wpAny_newTuple (hsz := by show 2 ≤ sizeLine; decide) (wpAny_pure ⟨_, rfl, lst m0 true m2 m3 z0 s0 j1 s2 j2 s3⟩)))
  · rw [if_neg (by decide)]
    obtain ⟨m0, em⟩ : ∃ m, m = s.heap := ⟨_, rfl⟩
    have z0 : IsZipT m0 z ti to T true := by rw [em]; exact hz
    have s0 : Heap.SameBut z s.heap m0 := by rw [em]; exact Heap.SameBut.refl ..
    have es : s = { s with heap := m0 } := by rw [em]
    rw [es]
    refine wpAny_pure ?_
    simp only [Bool.false_eq_true, if_false]
    refine wpAny_bind ?_
    simp only [← Array.forIn_toList, List.forIn_cons, List.forIn_nil]
    refine wpAny_bind (wpAny_bind (wpAny_holding ?_))
    show wpAny _ _ (Builtin.SmallTypes.nextOf (.ref i1) >>= _) _ _ { s with heap := m0 }
    refine wpAny_bind (k1.nx (h1.kp fun o e => s0.extBut _ _ D.i1z e) (hl1.kp fun o e => s0.extBut _ _ D.l1z e) hx fun m2 j1 s2 => wpAny_pure (wpAny_pure ?_))
    refine wpAny_bind (wpAny_bind (wpAny_holding ?_))
    show wpAny _ _ (Builtin.SmallTypes.nextOf (.ref i2) >>= _) _ _ { s with heap := m2 }
    refine wpAny_bind (k2.nx (h2.kp fun o e => s2.extBut _ _ D.i12.symm (s0.extBut _ _ D.i2z e)) (hl2.kp fun o e => s2.extBut _ _ D.l2i1 (s0.extBut _ _ D.l2z e)) hy fun m3 j2 s3 => wpAny_pure (wpAny_pure ?_))
    exact wpAny_pure (wpAny_bind (wpAny_newTuple (hsz := by show 2 ≤ sizeLine; decide) (wpAny_pure ⟨_, rfl, lst m0 true m2 m3 z0 s0 j1 s2 j2 s3⟩)))
theorem zt_end {k1 : Sr} {z ti to i1 i2 l1 l2 T : Addr} {b : Bool} {o : Obj} {n1 : Nat} {xs : Array Value} {Q : Fin → Shared → Prop} (hh : A.handled = none) (D : ZipApart z ti to i1 i2 l1 l2)
    (hz : IsZipT s.heap z ti to T b) (hti : IsPair s.heap ti (.ref i1) (.ref i2)) (hT : s.heap.get? T = some o) (h1 : k1.IsIt s.heap i1 l1 n1)
    (hl1 : k1.IsSq s.heap l1 xs) (hend : xs[n1]? = none)
    (hE : ∀ m e, (∀ c o, c ≠ z → c ≠ i1 → s.heap.get? c = some o → m.get? c = some o) → (∃ o, m.get? e = some o ∧ o.cls = .type "StopIteration") → E (.ref e) { s with heap := m }) :
    wpAny (model prog w) A (Builtin.«zip.__next__» ⟨[.ref z], []⟩) Q E s := by
  show wpAny _ _ (field (.ref z) 2 >>= _) _ _ s; refine wpAny_bind (wpAny_field hz rfl (x := .bool false) rfl ?_)
  show wpAny _ _ (field (.ref z) 3 >>= _) _ _ s; refine wpAny_bind (wpAny_field hz rfl (x := .ref ti) rfl (wpAny_bind (wpAny_seqItems hti rfl ?_)))
  show wpAny _ _ (Builtin.SmallTypes.ownedTupleIsFree (.ref z) >>= _) _ _ s; refine wpAny_bind ?_; unfold Builtin.SmallTypes.ownedTupleIsFree
  refine wpAny_bind (wpAny_field hz rfl (x := rawInt T) rfl ?_)
  have alive : ∀ {Q' : Option Obj → Shared → Prop}, Q' (some o) s → wpAny (model prog w) A (loadIfAlive ((T : Int)).toNat) Q' E s := fun hq => by
    rw [Int.toNat_natCast]
    exact wpAny_aliv hT hq
  refine wpAny_bind (alive ?_)
  rw [if_neg (show ¬ ((some o).isNone = true) from Bool.false_ne_true)]
  refine wpAny_bind (wpAny_field hz rfl (x := .bool b) rfl ?_)
  cases b
  · rw [if_pos (by rfl)]
    refine wpAny_bind (wpAny_setField_rec hz (by simp) fun m0 z0 s0 => ?_)
    refine wpAny_pure ?_
    simp only [Bool.false_eq_true, if_false]
    refine wpAny_bind ?_
    simp only [← Array.forIn_toList, List.forIn_cons, List.forIn_nil]
    refine wpAny_bind (wpAny_bind (wpAny_holding ?_))
    show wpAny _ _ (Builtin.SmallTypes.nextOf (.ref i1) >>= _) _ _ { s with heap := m0 }
    exact wpAny_bind (k1.nxEnd hh (h1.kp fun o e => s0.extBut _ _ D.i1z e) (hl1.kp fun o e => s0.extBut _ _ D.l1z e) hend fun m2 e s2 he => hE m2 e (fun c o c1 c2 q => s2 _ _ c2 (s0.extBut _ _ c1 q)) he)
  · rw [if_neg (by decide)]
    refine wpAny_pure ?_
    simp only [Bool.false_eq_true, if_false]
    refine wpAny_bind ?_
    simp only [← Array.forIn_toList, List.forIn_cons, List.forIn_nil]
    refine wpAny_bind (wpAny_bind (wpAny_holding ?_))
    show wpAny _ _ (Builtin.SmallTypes.nextOf (.ref i1) >>= _) _ _ s
    exact wpAny_bind (k1.nxEnd hh h1 hl1 hend fun m2 e s2 he => hE m2 e (fun c o c1 c2 q => s2 _ _ c2 q) he)
structure ZSt (k1 k2 : Sr) (z ti to i1 i2 l1 l2 : Addr) (xs ys : Array Value) (i : Nat) (h : Heap) : Prop where
  zp : (i = 0 ∧ IsZip h z ti to .none) ∨ ∃ T b o, IsZipT h z ti to T b ∧ h.get? T = some o
  tip : IsPair h ti (.ref i1) (.ref i2)
  top : ∃ u v, IsPair h to u v
  it1 : k1.IsIt h i1 l1 i
  it2 : k2.IsIt h i2 l2 i
  sq1 : k1.IsSq h l1 xs
  sq2 : k2.IsSq h l2 ys
theorem ZSt.kp {k1 k2 : Sr} {z ti to i1 i2 l1 l2 S : Addr} {xs ys : Array Value} {i : Nat} {h h' : Heap} (x : ZSt k1 k2 z ti to i1 i2 l1 l2 xs ys i h) (n : ∀ c ∈ [z, ti, to, i1, i2, l1, l2], c ≠ S)
    (e : ∀ c o, c ≠ S → h.get? c = some o → h'.get? c = some o) (eS : ∃ o, h'.get? S = some o) : ZSt k1 k2 z ti to i1 i2 l1 l2 xs ys i h' where
  zp := by
    rcases x.zp with ⟨a, b⟩ | ⟨T, b, o, p, q⟩
    · exact .inl ⟨a, e _ _ (n _ (by simp)) b⟩
    · by_cases hT : T = S
      · obtain ⟨o', q'⟩ := eS
        exact .inr ⟨T, b, o', e _ _ (n _ (by simp)) p, by rw [hT]; exact q'⟩
      · exact .inr ⟨T, b, o, e _ _ (n _ (by simp)) p, e _ _ hT q⟩
  tip := e _ _ (n _ (by simp)) x.tip
  top := let ⟨u, v, p⟩ := x.top; ⟨u, v, e _ _ (n _ (by simp)) p⟩
  it1 := x.it1.kp fun o p => e _ _ (n _ (by simp)) p
  it2 := x.it2.kp fun o p => e _ _ (n _ (by simp)) p
  sq1 := x.sq1.kp fun o p => e _ _ (n _ (by simp)) p
  sq2 := x.sq2.kp fun o p => e _ _ (n _ (by simp)) p
theorem ZSt.next {k1 k2 : Sr} {z ti to i1 i2 l1 l2 : Addr} {xs ys : Array Value} {i : Nat} {x y : Value} {Q : Option Value → Shared → Prop} (D : ZipApart z ti to i1 i2 l1 l2) (st : ZSt k1 k2 z ti to i1 i2 l1 l2 xs ys i s.heap)
    (hx : xs[i]? = some x) (hy : ys[i]? = some y)
    (hQ : ∀ m, ZSt k1 k2 z ti to i1 i2 l1 l2 xs ys (i + 1) m → IsPair m s.heap.objs.size x y → m.objs.size = s.heap.objs.size + 1 → (∀ c o, c ∉ [z, to, i1, i2] → s.heap.get? c = some o → m.get? c = some o) → Q (some (.ref s.heap.objs.size)) { s with heap := m }) :
    wpAny (model prog w) A (pyNext (.ref z)) Q E s := by
  obtain ⟨u, v, top⟩ := st.top
  rcases st.zp with ⟨rfl, hz⟩ | ⟨T, b, o, hz, hT⟩
  · refine zq_next D hz st.tip top st.it1 st.it2 st.sq1 st.sq2 hx hy fun m a1 a2 a3 a4 a5 a6 kp => hQ m ⟨.inr ⟨_, false, _, a1, a5⟩, kp _ _ D.TIz D.TITO D.TIi1 D.TIi2 st.tip, ⟨_, _, a2⟩, a3, a4, st.sq1.kp fun o e => kp _ _ D.l1z D.l1TO D.l1i1 D.l1i2 e, st.sq2.kp fun o e => kp _ _ D.l2z D.l2TO D.l2i1 D.l2i2 e⟩ a5 a6 ?_
    exact fun c o hc e => kp c o (fun q => hc (by simp [q])) (fun q => hc (by simp [q])) (fun q => hc (by simp [q])) (fun q => hc (by simp [q])) e
  · have ht : s.TypeIs (.ref z) "zip" := ⟨_, hz, rfl⟩
    unfold pyNext
    refine wpAny_bind (wpAny_attempt (wpAny_callSpecial?_slot (name := Str.ofString "__next__") ht F.slot_zip_next (wpAny_call_entry F.slot_zip_next ht F.entry_zip_next
      (zt_item D hz st.tip hT st.it1 st.it2 st.sq1 st.sq2 hx hy fun m b' a1 a3 a4 a5 a6 kp => wpAny_pure (hQ m ⟨.inr ?_, kp _ _ D.TIz D.TIi1 D.TIi2 st.tip, ⟨_, _, kp _ _ D.TOz D.TOi1 D.TOi2 top⟩, a3, a4, st.sq1.kp fun o e => kp _ _ D.l1z D.l1i1 D.l1i2 e, st.sq2.kp fun o e => kp _ _ D.l2z D.l2i1 D.l2i2 e⟩ a5 a6 ?_)) (F.args_zip_next_1 _))))
    · by_cases q1 : T = z
      · exact ⟨T, b', _, a1, by rw [q1]; exact a1⟩
      by_cases q2 : T = i1
      · obtain ⟨o', e, _⟩ := a3.ob
        exact ⟨T, b', o', a1, by rw [q2]; exact e⟩
      by_cases q3 : T = i2
      · obtain ⟨o', e, _⟩ := a4.ob
        exact ⟨T, b', o', a1, by rw [q3]; exact e⟩
      exact ⟨T, b', o, a1, kp _ _ q1 q2 q3 hT⟩
    · exact fun c o hc e => kp c o (fun q => hc (by simp [q])) (fun q => hc (by simp [q])) (fun q => hc (by simp [q])) e
theorem ZSt.done {k1 k2 : Sr} {z ti to i1 i2 l1 l2 : Addr} {xs ys : Array Value} {i : Nat} {Q : Option Value → Shared → Prop} (hh : A.handled = none) (D : ZipApart z ti to i1 i2 l1 l2) (st : ZSt k1 k2 z ti to i1 i2 l1 l2 xs ys i s.heap)
    (hx : xs[i]? = none) (hQ : ∀ m, (∀ c o, c ∉ [z, to, i1, i2] → s.heap.get? c = some o → m.get? c = some o) → Q none { s with heap := m }) : wpAny (model prog w) A (pyNext (.ref z)) Q E s := by
  obtain ⟨u, v, top⟩ := st.top
  rcases st.zp with ⟨rfl, hz⟩ | ⟨T, b, o, hz, hT⟩
  · exact zq_done hh D hz st.tip top st.it1 st.it2 st.sq1 st.sq2 (.inl hx) fun m kp => hQ m fun c o hc e => kp c o (fun q => hc (by simp [q])) (fun q => hc (by simp [q])) (fun q => hc (by simp [q])) (fun q => hc (by simp [q])) e
  · have ht : s.TypeIs (.ref z) "zip" := ⟨_, hz, rfl⟩
    unfold pyNext
    refine wpAny_bind (wpAny_attempt (wpAny_callSpecial?_slot (name := Str.ofString "__next__") ht F.slot_zip_next (wpAny_call_entry F.slot_zip_next ht F.entry_zip_next
      (zt_end hh D hz st.tip hT st.it1 st.sq1 hx fun m e kp he => ?_) (F.args_zip_next_1 _))))
    obtain ⟨o, ho, hc⟩ := he
    exact wpAny_bind (wpAny_isInstance (T := "StopIteration") (b := true) ⟨o, ho, hc⟩ isSubtype_stop (wpAny_pure (hQ _ fun c o hc e => kp c o (fun q => hc (by simp [q])) (fun q => hc (by simp [q])) e)))
theorem zip_no_len : typeLookup (.type "zip") "__len__" = pure none := by rw [typeLookup_type, builtinLookup_eq_fast]; kernel_rfl
theorem zip_no_hint : typeLookup (.type "zip") "__length_hint__" = pure none := by rw [typeLookup_type, builtinLookup_eq_fast]; kernel_rfl
theorem zl_loop {k1 k2 : Sr} {z ti to i1 i2 l1 l2 S base : Addr} {xs ys : Array Value} {res : Value} {R : Result → Shared → Prop} (hh : A.in1.handled = none) (D : ZipApart z ti to i1 i2 l1 l2) (hsz : xs.size = ys.size) (hn : xs.size ≤ sizeLine)
    (hS : ∀ c ∈ [z, ti, to, i1, i2, l1, l2], c ≠ S) (hb : ∀ c ∈ [S, z, ti, to, i1, i2, l1, l2], c < base) : ∀ (k i : Nat) (s : Shared) (ts : List Addr) (c : Nat), xs.size - i = k → i ≤ xs.size → ZSt k1 k2 z ti to i1 i2 l1 l2 xs ys i s.heap →
      s.heap.get? S = some { cls := .type "list", dict := none, data := .seq (ts.map Value.ref).toArray c, slots := #[] } → ts.length = i → ts.Nodup → base ≤ s.heap.objs.size →
      (∀ (j : Nat) (t : Addr), ts[j]? = some t → base ≤ t ∧ ∃ x y, xs[j]? = some x ∧ ys[j]? = some y ∧ IsPair s.heap t x y) → 
      (∀ (m : Heap) (ts : List Addr) (c : Nat), m.get? S = some { cls := .type "list", dict := none, data := .seq (ts.map Value.ref).toArray c, slots := #[] } → ts.length = xs.size → ts.Nodup → (∀ (j : Nat) (t : Addr), ts[j]? = some t → base ≤ t ∧ ∃ x y, xs[j]? = some x ∧ ys[j]? = some y ∧ IsPair m t x y) →
        (∀ c o, c ∉ [S, z, to, i1, i2] → s.heap.get? c = some o → m.get? c = some o) → R (.ok (.ret res)) { s with heap := m }) →
      codeAny (model prog w) A (.builtin "list.extend.loop" ⟨[.ref S, .ref z, res], []⟩) R s := by
  intro k
  induction k with
  | zero =>
    intro i s ts c hk hi st hL hl hnd hbs hts hR
    have e : i = xs.size := by omega
    refine codeAny_builtin F.entry_extend_loop ?_
    rw [Around.under_plainId F.plain_extend_loop _]
    show wpAny _ A.in1 (pyNext (.ref z) >>= _) _ _ s
    refine wpAny_bind (st.done hh D (Array.getElem?_eq_none (by omega)) fun m kp => ?_)
    have nS : S ∉ [z, to, i1, i2] := fun q => hS S (by simp at q ⊢; rcases q with q | q | q | q <;> simp [q]) rfl
    refine wpAny_pure (hR m ts c (kp _ _ nS hL) (by omega) hnd (fun j t hj => ?_) fun c o hc e => kp c o (fun q => hc (List.mem_cons_of_mem _ q)) e)
    obtain ⟨b1, x, y, e1, e2, e3⟩ := hts j t hj
    refine ⟨b1, x, y, e1, e2, kp _ _ (fun q => ?_) e3⟩
    exact absurd (hb t (by simp at q ⊢; rcases q with q | q | q | q <;> simp [q])) (Nat.not_lt.mpr b1)
  | succ k ih =>
    intro i s ts c hk hi st hL hl hnd hbs hts hR
    have hlt : i < xs.size := by omega
    have hlt2 : i < ys.size := by omega
    refine codeAny_builtin F.entry_extend_loop ?_
    rw [Around.under_plainId F.plain_extend_loop _]
    show wpAny _ A.in1 (pyNext (.ref z) >>= _) _ _ s
    refine wpAny_bind (st.next D (Array.getElem?_eq_getElem hlt) (Array.getElem?_eq_getElem hlt2) fun m st' hp hsz' kp => ?_)
    have nS : S ∉ [z, to, i1, i2] := fun q => hS S (by simp at q ⊢; rcases q with q | q | q | q <;> simp [q]) rfl
    have hL' := kp _ _ nS hL
    show wpAny _ A.in1 (updateSeq S (·.push (.ref s.heap.objs.size)) >>= _) _ _ _
    refine wpAny_bind ?_
    have tne : s.heap.objs.size ≠ S := Nat.ne_of_gt (Nat.lt_of_lt_of_le (hb S (by simp)) hbs)
    have oth : ∀ b o, b ≠ S → m.get? b = some o → (m.update S (Obj.mapSeq (·.push (.ref s.heap.objs.size)))).get? b = some o := fun b o hb e => (Heap.get?_update_other _ _ (Ne.symm hb)).trans e
    have hLS := Heap.get?_update_self (Obj.mapSeq (·.push (.ref s.heap.objs.size))) hL' rfl
    have eA : (ts.map Value.ref).toArray.push (.ref s.heap.objs.size) = ((ts ++ [s.heap.objs.size]).map Value.ref).toArray := by simp
    have hLT : (m.update S (Obj.mapSeq (·.push (.ref s.heap.objs.size)))).get? S = some { cls := .type "list", dict := none, data := .seq ((ts.map Value.ref).toArray.push (.ref s.heap.objs.size)) _, slots := #[] } := hLS
    rw [eA] at hLT
    refine wpAny_updateSeq hL' rfl (wpAny_pure ⟨plainId_quiet F.plain_extend_loop _, ih (i + 1) _ (ts ++ [s.heap.objs.size]) _ (by omega) (by omega) (st'.kp hS oth ⟨_, hLS⟩) hLT (by simp [hl]) ?_ ?_ ?_ ?_⟩) (by simp [hl]; omega) (by simp [hl]; omega)
    · refine List.nodup_append.mpr ⟨hnd, by simp, fun x hx y hy => ?_⟩
      have ey : y = s.heap.objs.size := by simpa using hy
      obtain ⟨j, hj⟩ := List.getElem?_of_mem hx
      obtain ⟨_, _, _, _, _, e3⟩ := hts j x hj
      rw [ey]
      exact Nat.ne_of_lt (Heap.lt_size e3)
    · show base ≤ (m.update S _).objs.size
      rw [(Heap.SameBut.update m S _).1, hsz']
      exact Nat.le_succ_of_le hbs
    · intro j t hj
      by_cases hji : j < ts.length
      · rw [List.getElem?_append_left hji] at hj
        obtain ⟨b1, x, y, e1, e2, e3⟩ := hts j t hj
        refine ⟨b1, x, y, e1, e2, oth _ _ (fun q => ?_) (kp _ _ (fun q => ?_) e3)⟩
        · rw [q] at b1
          exact absurd (hb S (by simp)) (Nat.not_lt.mpr b1)
        · exact absurd (hb t (by simp at q ⊢; rcases q with q | q | q | q <;> simp [q])) (Nat.not_lt.mpr b1)
      · rw [List.getElem?_append_right (by omega)] at hj
        have hj0 : j - ts.length = 0 := by
          have := (List.getElem?_eq_some_iff.mp hj).1
          simp at this
          omega
        rw [hj0] at hj
        have et : s.heap.objs.size = t := by simpa using hj
        have ej : j = i := by omega
        rw [← et, ej]
        exact ⟨hbs, _, _, Array.getElem?_eq_getElem hlt, Array.getElem?_eq_getElem hlt2, oth _ _ tne hp⟩
    · intro m' ts' c' g1 g2 gn g3 g4
      refine hR m' ts' c' g1 g2 gn g3 fun c o hc e => g4 c o hc (oth _ _ (fun q => hc (by simp [q])) (kp _ _ (fun q => hc (List.mem_cons_of_mem _ q)) e))
theorem call_listz {k1 k2 : Sr} {z ti to i1 i2 l1 l2 : Addr} {xs ys : Array Value} {Q : Value → Shared → Prop} (hh : A.in1.in1.handled = none) (D : ZipApart z ti to i1 i2 l1 l2) (hsz : xs.size = ys.size) (hn : xs.size ≤ sizeLine)
    (st : ZSt k1 k2 z ti to i1 i2 l1 l2 xs ys 0 s.heap) (hb : ∀ c ∈ [z, ti, to, i1, i2, l1, l2], c < s.heap.objs.size)
    (hQ : ∀ (m : Heap) (ts : List Addr) (c : Nat), m.get? s.heap.objs.size = some { cls := .type "list", dict := none, data := .seq (ts.map Value.ref).toArray c, slots := #[] } → ts.length = xs.size → ts.Nodup →
      (∀ (j : Nat) (t : Addr), ts[j]? = some t → s.heap.objs.size < t ∧ ∃ x y, xs[j]? = some x ∧ ys[j]? = some y ∧ IsPair m t x y) →
      (∀ c o, c ∉ [z, to, i1, i2] → s.heap.get? c = some o → m.get? c = some o) → Q (.ref s.heap.objs.size) { s with heap := m }) :
    wpAny (model prog w) A (call (.type "list") [.ref z]) Q E s := by
  refine callType_codes (Q₁ := fun obj s₁ => obj = .ref s.heap.objs.size ∧ s₁ = { s with heap := s.heap.push { cls := .type "list", data := .seq #[] } }) F.called_list (F.typeCall_list_1 _) F.entry_list_init
    (code_list_new _ ⟨rfl, rfl⟩) fun obj s₁ h₁ => ?_
  obtain ⟨rfl, rfl⟩ := h₁
  have g0 : (s.heap.push { cls := .type "list", data := .seq #[] }).get? s.heap.objs.size = some { cls := .type "list", data := .seq #[] } := Heap.get?_push_size _ rfl
  refine ⟨⟨_, g0, rfl⟩, F.args_list_init_2 _ _, ?_⟩
  have hbS : ∀ c ∈ [z, ti, to, i1, i2, l1, l2], c ≠ s.heap.objs.size := fun c hc => Nat.ne_of_lt (hb c hc)
  have st0 : ZSt k1 k2 z ti to i1 i2 l1 l2 xs ys 0 (s.heap.push { cls := .type "list", data := .seq #[] }) := st.kp hbS (fun c o _ e => Heap.get?_push_of_some _ e) ⟨_, g0⟩
  show wpAny _ _ (do let old ← Builtin.List.listItems (.ref s.heap.objs.size); Builtin.List.listUpdate (.ref s.heap.objs.size) (fun _ => #[]); letGo old.toList.reverse; Builtin.List.listExtendWith (.ref s.heap.objs.size) (.ref z) .none) _ _ _
  refine wpAny_bind ?_
  unfold Builtin.List.listItems
  refine wpAny_bind (wpAny_seqItems g0 rfl (wpAny_pure ?_))
  show wpAny _ _ (updateSeq s.heap.objs.size (fun _ => #[]) >>= fun _ => letGo (#[] : Array Value).toList.reverse >>= fun _ => Builtin.List.listExtendWith (.ref s.heap.objs.size) (.ref z) .none) _ _ _
  refine wpAny_bind (wpAny_updateSeq g0 rfl ?_)
  have g1 := Heap.get?_update_self (Obj.mapSeq (fun _ => (#[] : Array Value))) g0 rfl
  have o1 : ∀ b o, b ≠ s.heap.objs.size → (s.heap.push { cls := .type "list", data := .seq #[] }).get? b = some o → ((s.heap.push { cls := .type "list", data := .seq #[] }).update s.heap.objs.size (Obj.mapSeq (fun _ => (#[] : Array Value)))).get? b = some o :=
    fun b o hb e => (Heap.get?_update_other _ _ (Ne.symm hb)).trans e
  have st1 := st0.kp hbS o1 ⟨_, g1⟩
  have n1 : ((s.heap.push { cls := .type "list", data := .seq #[] }).update s.heap.objs.size (Obj.mapSeq (fun _ => (#[] : Array Value)))).objs.size = s.heap.objs.size + 1 := by rw [(Heap.SameBut.update _ _ _).1, Heap.size_push]
  have k1' : ∀ c o, s.heap.get? c = some o → ((s.heap.push { cls := .type "list", data := .seq #[] }).update s.heap.objs.size (Obj.mapSeq (fun _ => (#[] : Array Value)))).get? c = some o := fun c o e => o1 c o (Nat.ne_of_lt (Heap.lt_size e)) (Heap.get?_push_of_some _ e)
  generalize (s.heap.push { cls := .type "list", data := .seq #[] }).update s.heap.objs.size (Obj.mapSeq (fun _ => (#[] : Array Value))) = m1 at g1 o1 st1 n1 k1' ⊢
  replace g1 : m1.get? s.heap.objs.size = some { cls := .type "list", data := .seq #[] } := g1
  refine wpAny_bind (wpAny_letGo ?_)
  have hT : ∀ {m : Heap}, ZSt k1 k2 z ti to i1 i2 l1 l2 xs ys 0 m → ({ s with heap := m } : Shared).TypeIs (.ref z) "zip" := fun st => by
    rcases st.zp with ⟨_, e⟩ | ⟨_, _, _, e, _⟩
    · exact ⟨_, e, rfl⟩
    · exact ⟨_, e, rfl⟩
  have hne : s.heap.objs.size ≠ z := (hbS z (by simp)).symm
  unfold Builtin.List.listExtendWith
  refine wpAny_bind (wpAny_typeOf (hT st1) ?_)
  have q1 : Builtin.List.listSameRef (.ref s.heap.objs.size) (.ref z) = false := by simp [Builtin.List.listSameRef, hne]
  have q2 : (Value.type "zip" == Value.type "list") = false := by decide
  have q3 : (Value.type "zip" == Value.type "tuple") = false := by decide
  simp only [q1, q2, q3, Bool.or_false, Bool.false_eq_true, if_false]
  have selfIter : ∀ {A' : Around} {E' : Value → Shared → Prop} {m : Heap} {Q' : Value → Shared → Prop}, ZSt k1 k2 z ti to i1 i2 l1 l2 xs ys 0 m → Q' (.ref z) { s with heap := m } → wpAny (model prog w) A' (pyIter (.ref z)) Q' E' { s with heap := m } := fun st hq => by
    have ht := hT st
    refine wpAny_pyIter_slot ht F.slot_zip_iter (wpAny_call_entry F.slot_zip_iter ht F.entry_zip_iter ?_ (F.args_zip_iter_1 _))
    exact wpAny_pure ⟨_, rfl, "zip", _, ht, F.slot_zip_next.lookup, hq⟩
  refine wpAny_bind (selfIter st1 ?_)
  refine wpAny_bind (wpAny_holding ?_)
  unfold Builtin.List.listLengthHint
  refine wpAny_bind (wpAny_specialOf (hT st1) zip_no_len ?_)
  show wpAny _ _ (specialOf (Value.ref z) (Str.ofString "__length_hint__") >>= _) _ _ _
  refine wpAny_bind (wpAny_specialOf (hT st1) zip_no_hint (wpAny_pure ?_))
  show wpAny _ _ (rule "list.extend.makes-room" >>= fun _ => Builtin.List.listTouch (.ref s.heap.objs.size) >>= fun _ => again (.builtin "list.extend.loop" ⟨[.ref s.heap.objs.size, .ref z, .none], []⟩)) _ _ _
  refine wpAny_bind (wpAny_rule (wpAny_bind ?_))
  show wpAny _ _ (updateSeq s.heap.objs.size (·.push .none) >>= fun _ => updateSeq s.heap.objs.size (·.pop)) _ _ _
  refine wpAny_bind (wpAny_updateSeq g1 rfl ?_)
  have g2 := Heap.get?_update_self (Obj.mapSeq (·.push Value.none)) g1 rfl
  refine wpAny_updateSeq (hz := by seq_fits) g2 rfl ?_
  have g3 := Heap.get?_update_self (Obj.mapSeq (·.pop)) g2 rfl
  have o3 : ∀ b o, b ≠ s.heap.objs.size → m1.get? b = some o → ((m1.update s.heap.objs.size (Obj.mapSeq (·.push Value.none))).update s.heap.objs.size (Obj.mapSeq (·.pop))).get? b = some o :=
    fun b o hb e => (Heap.get?_update_other _ _ (Ne.symm hb)).trans ((Heap.get?_update_other _ _ (Ne.symm hb)).trans e)
  have n3 : ((m1.update s.heap.objs.size (Obj.mapSeq (·.push Value.none))).update s.heap.objs.size (Obj.mapSeq (·.pop))).objs.size = s.heap.objs.size + 1 := by rw [(Heap.SameBut.update _ _ _).1, (Heap.SameBut.update _ _ _).1, n1]
  refine wpAny_pure ⟨plainId_quiet F.plain_extend_loop _, zl_loop (base := s.heap.objs.size + 1) hh D hsz hn hbS (fun c hc => ?_) _ 0 _ [] _ rfl (Nat.zero_le _) (st1.kp hbS o3 ⟨_, g3⟩) g3 rfl List.nodup_nil ?_ (by simp) fun m ts c e1 e2 en e3 e4 => ?_⟩
  · rcases List.mem_cons.mp hc with q | q
    · rw [q]; exact Nat.lt_succ_self _
    · exact Nat.lt_succ_of_lt (hb c q)
  · exact Nat.le_of_eq n3.symm
  · refine ⟨rfl, hQ m ts c e1 e2 en (fun j t hj => ?_) fun c o hc e => ?_⟩
    · obtain ⟨b1, r⟩ := e3 j t hj
      exact ⟨b1, r⟩
    · refine e4 c o (fun q => ?_) (o3 c o (Nat.ne_of_lt (Heap.lt_size e)) (k1' c o e))
      rcases List.mem_cons.mp q with q | q
      · exact absurd (Heap.lt_size e) (by rw [q]; exact Nat.lt_irrefl _)
      · exact hc q
end
section
variable {X : Cx} {pins : List (Addr × Obj)} {σ : St} {H : Hp} {s : Shared} {h' : Heap}
theorem Inv.sr (I : Inv X pins σ H s) (k : Sr) {a : Addr} {xs : List V} (h : k.Ab X.K H a xs) : ∃ its : List Value, Vals xs its ∧ k.IsSq s.heap a its.toArray ∧ xs.length ≤ sizeLine := by
  cases k with
  | lst => obtain ⟨its, r, p, z⟩ := I.list h; exact ⟨its, r, p.isList, z⟩
  | tup => obtain ⟨its, r, p, z⟩ := I.tuple h; exact ⟨its, r, p, z⟩
end
theorem Sr.Ab.same {k : Sr} {K : PySem.W.Frag} {H H' : Hp} {a : Addr} {xs : List V} (h : k.Ab K H a xs) (s : Same H H') : k.Ab K H' a xs := by
  cases k with
  | lst => exact s.seq h
  | tup => exact s.seqT h
/-- two of them side by side: each turn a new pair -/
def Itz (k1 k2 : Sr) (K : PySem.W.Frag) (a b : Addr) : It :=
  ⟨fun i H => ∃ xs ys x y, k1.Ab K H a xs ∧ k2.Ab K H b ys ∧ xs[i]? = some x ∧ ys[i]? = some y,
   fun i H v H' => ∃ t x y, v = .ref t ∧ New H t (.tup [x, y]) H' ∧ (∀ xs, k1.Ab K H a xs → xs[i]? = some x) ∧ ∀ ys, k2.Ab K H b ys → ys[i]? = some y,
   fun i H => ∃ xs ys, k1.Ab K H a xs ∧ k2.Ab K H b ys ∧ (xs.length ≤ i ∨ ys.length ≤ i)⟩
theorem apartN (n a b : Nat) (ha : a < n) (hb : b < n) : ZipApart (n + 4) (n + 2) (n + 3) n (n + 1) a b := by
  constructor <;> first | exact Nat.ne_of_gt (by omega) | exact Nat.ne_of_lt (by omega)
section
variable {X : Cx}
def iZip (K : PySem.W.Frag) (ta : TA) : TI := fun σ H R => ta σ H fun vs H1 => ∃ k1 k2 a b xs ys, vs = [.ref a, .ref b] ∧ Sr.Ab k1 K H1 a xs ∧ Sr.Ab k2 K H1 b ys ∧ R (Itz k1 k2 K a b) H1
end
namespace Rd
section
variable {σ : St} {H : Hp}
def zpQ (K : PySem.W.Frag) (R : It → Hp → Prop) : List V → Hp → Prop := fun vs H1 => ∃ k1 k2 a b xs ys, vs = [.ref a, .ref b] ∧ Sr.Ab k1 K H1 a xs ∧ Sr.Ab k2 K H1 b ys ∧ R (Itz k1 k2 K a b) H1
theorem zp {K : PySem.W.Frag} {ta : TA} {R : It → Hp → Prop} : iZip K ta σ H R = ta σ H (zpQ K R) := rfl
theorem zpI {K : PySem.W.Frag} {R : It → Hp → Prop} {a b : Addr} : zpQ K R [.ref a, .ref b] H = ∃ k1 k2 xs ys, Sr.Ab k1 K H a xs ∧ Sr.Ab k2 K H b ys ∧ R (Itz k1 k2 K a b) H :=
  propext ⟨fun ⟨k1, k2, _, _, xs, ys, e, p, q, r⟩ => by cases e; exact ⟨k1, k2, xs, ys, p, q, r⟩, fun ⟨k1, k2, xs, ys, p, q, r⟩ => ⟨k1, k2, a, b, xs, ys, rfl, p, q, r⟩⟩
end
end Rd
section
variable {te : TE} {Q : VK} {σ : St} {H : Hp}
end
section
variable {X : Cx} {pins : List (Addr × Obj)} {σ : St} {H H' : Hp} {s : Shared} {h' : Heap}
/-- several new objects laid and tracked -/
theorem Inv.laidS {t' : Nat} (I : Inv X pins σ H s) (k : ∀ b u, s.heap.get? b = some u → h'.get? b = some u) (sm : Same H H') (old : ∀ b, b < s.heap.objs.size → H' b = H b)
    (new : ∀ b o, H b = none → H' b = some o → ObjOk X.prog X.w H' h' b o) : Inv X pins σ H' { s with heap := h', toks := t' } := by
  refine I.un ⟨fun b u q _ _ _ => k b u q, fun b u q _ _ _ => ⟨u.slots, k b u q⟩, fun b u q n _ => by rw [old b (Heap.lt_size q)]; exact n, fun b u q _ => ⟨u, k b u q⟩, fun b xs q => sm _ _ q, fun b u xs q => sm _ _ q, fun b ps q => ⟨#[], by rw [sm _ _ q]; simp⟩⟩ (fun b u e => ?_)
  cases hb : H b with
  | none => exact new b u hb e
  | some v =>
    have e2 : v = u := Option.some.inj ((sm _ _ hb).symm.trans e)
    subst e2
    exact (I.hok b v hb).stay (fun c v _ q => k c v q) (fun c q => sm _ _ q) fun c xs q => sm _ _ q
end
/-- list(zip(a, b)), both of one length -/
def lzQ (K : PySem.W.Frag) (Q : VK) : List V → Hp → Prop := fun vs H1 => ∃ k1 k2 a b xs ys, vs = [.ref a, .ref b] ∧ Sr.Ab k1 K H1 a xs ∧ Sr.Ab k2 K H1 b ys ∧ xs.length = ys.length ∧
  ∀ (p : Addr) (ts : List Addr) (H2 : Hp), Same H1 H2 → H1 p = none → H2 p = some (.lst (ts.map V.ref)) → ts.length = xs.length →
    (∀ (j : Nat) (t : Addr), ts[j]? = some t → ∃ x y, xs[j]? = some x ∧ ys[j]? = some y ∧ H2 t = some (.tup [x, y])) → Q (.ref p) H2
def tLz (K : PySem.W.Frag) (t : TA) : TE := fun σ H Q => t σ H (lzQ K Q)
section
variable {X : Cx}
theorem valsRefs : ∀ ts : List Addr, Vals (ts.map V.ref) (ts.map Value.ref)
  | [] => .nil
  | _ :: ts => .cons rfl (valsRefs ts)
theorem pe_listzip {e1 e2 : Expr} {ta : TA} {p1 p2 pos pos2 : Pos} (hgl : Gl X "list") (hgz : Gl X "zip") (hml : X.mg "list" = none) (hmz : X.mg "zip" = none) (hc : X.calm = true) (ha : PA X [e1, e2] ta)
    (hs : starEach [e1, e2] X.env = (false, eval e1 X.env) :: starEach [e2] X.env := by rfl) (hpl : (backTo pos2 (starEach [e2] X.env)).any (·.1) = false := by rfl)
    (hs2 : starEach [.Call (.Name "zip" p2) [e1, e2] [] pos2] X.env = [(false, eval (.Call (.Name "zip" p2) [e1, e2] [] pos2) X.env)] := by rfl) :
    PE X (.Call (.Name "list" p1) [.Call (.Name "zip" p2) [e1, e2] [] pos2] [] pos) (tLz X.K ta) := by
  intro pins s σ H Q I h
  refine Call_ (ld_blt I hgl hml boot_list (PyProof.Rows.callWith_type1 ?_ hs2 rfl))
  rw [hs2]
  show wpAny _ _ (spliced ((false, eval (.Call (.Name "zip" p2) [e1, e2] [] pos2) X.env) :: [])) _ _ s
  refine Calls.spliced_cons (Call_ (ld_blt I hgz hmz boot_zip (PyProof.Rows.callWith_type1 (thn (ha pos2 pins s σ H _ I h) fun us s1 ⟨vs, H1, I1, r1, q1⟩ => ?_) hs hpl)))
  obtain ⟨k1, k2, a, b, xs, ys, e, h1, h2, hl, q⟩ := q1
  subst e
  obtain ⟨u, v, rfl, ru, rv⟩ := vals2 r1
  cases ru
  cases rv
  obtain ⟨its, r1, p1, z1⟩ := I1.sr k1 h1
  obtain ⟨jts, r2, p2, z2⟩ := I1.sr k2 h2
  refine call_zq k1 k2 p1 p2 fun m m1 m2 m3 m4 m5 m6 kp => Calls.spliced_nil ?_
  have la := p1.lt
  have lb := p2.lt
  have D : ZipApart (s1.heap.objs.size + 4) (s1.heap.objs.size + 2) (s1.heap.objs.size + 3) s1.heap.objs.size (s1.heap.objs.size + 1) a b := apartN _ a b la lb
  have l1 := r1.length
  have l2 := r2.length
  refine call_listz (s := { s1 with heap := m }) (k1 := k1) (k2 := k2) (xs := its.toArray) (ys := jts.toArray) (I.ok.hd hc) D (by simp; omega) (by simp; omega) ⟨.inl ⟨rfl, m1⟩, m2, ⟨_, _, m3⟩, m4, m5, p1.kp fun o e => kp _ _ e, p2.kp fun o e => kp _ _ e⟩ (fun c hc => ?_) fun mm ts c g1 g2 gn g3 g4 => ?_
  · show c < m.objs.size
    rw [m6]
    simp only [List.mem_cons, List.mem_nil_iff, or_false] at hc
    rcases hc with e | e | e | e | e | e | e <;> rw [e]
    · exact Nat.add_lt_add_left (by decide) _
    · exact Nat.add_lt_add_left (by decide) _
    · exact Nat.add_lt_add_left (by decide) _
    · exact Nat.lt_add_of_pos_right (by decide)
    · exact Nat.add_lt_add_left (by decide) _
    · exact Nat.lt_of_lt_of_le la (Nat.le_add_right _ _)
    · exact Nat.lt_of_lt_of_le lb (Nat.le_add_right _ _)
  · have n0 : (({ s1 with heap := m } : Shared).heap.objs.size) = s1.heap.objs.size + 5 := m6
    rw [n0] at g1 g3 ⊢
    have keep : ∀ b u, s1.heap.get? b = some u → mm.get? b = some u := fun b u e => g4 b u (fun z => by
      have lt : b < s1.heap.objs.size := Heap.lt_size e
      simp only [List.mem_cons, List.mem_nil_iff, or_false] at z
      rcases z with z | z | z | z <;> rw [z] at lt <;> first | exact absurd lt (Nat.not_lt.mpr (Nat.le_add_right _ _)) | exact absurd lt (Nat.lt_irrefl _)) (kp _ _ e)
    have fresh : ∀ b, s1.heap.objs.size ≤ b → H1 b = none := fun b hb => I1.hok.fresh hb
    have tlt : ∀ (j : Nat) (t : Addr), ts[j]? = some t → s1.heap.objs.size + 5 < t := fun j t hj => (g3 j t hj).1
    have nof : ∀ b, b ≤ s1.heap.objs.size + 5 → ts.findIdx? (· == b) = none := fun b hb => by
      rw [List.findIdx?_eq_none_iff]
      intro t ht
      obtain ⟨j, hj⟩ := List.getElem?_of_mem ht
      have := tlt j t hj
      simp only [beq_eq_false_iff_ne, ne_eq]
      exact Nat.ne_of_gt (Nat.lt_of_le_of_lt hb this)
    have fnd : ∀ (j : Nat) (t : Addr), ts[j]? = some t → ts.findIdx? (· == t) = some j := fun j t hj => by
      obtain ⟨hjl, e⟩ := List.getElem?_eq_some_iff.mp hj
      rw [List.findIdx?_eq_some_iff_getElem]
      refine ⟨hjl, by simp [e], fun k hk => ?_⟩
      have ne : ts[k] ≠ t := fun z => by
        have := (List.getElem_inj (h₀ := by omega) (h₁ := hjl) gn).mp (z.trans e.symm)
        omega
      simpa using ne
    let HN : Hp := fun b => if b = s1.heap.objs.size + 5 then some (.lst (ts.map V.ref)) else match ts.findIdx? (· == b) with
      | some j => some (.tup [xs.getD j .non, ys.getD j .non])
      | none => H1 b
    have hOld : ∀ b, b < s1.heap.objs.size → HN b = H1 b := fun b hb => by
      show (if b = s1.heap.objs.size + 5 then _ else _) = _
      rw [if_neg (Nat.ne_of_lt (Nat.lt_of_lt_of_le hb (Nat.le_add_right _ _))), nof b (Nat.le_of_lt (Nat.lt_of_lt_of_le hb (Nat.le_add_right _ _)))]
    have hSm : Same H1 HN := fun b u e => by
      have hb : b < s1.heap.objs.size := by
        apply Nat.lt_of_not_le
        intro z
        rw [fresh b z] at e
        cases e
      rw [hOld b hb]
      exact e
    have hP : HN (s1.heap.objs.size + 5) = some (.lst (ts.map V.ref)) := if_pos rfl
    have hT : ∀ (j : Nat) (t : Addr), ts[j]? = some t → HN t = some (.tup [xs.getD j .non, ys.getD j .non]) := fun j t hj => by
      show (if t = s1.heap.objs.size + 5 then _ else _) = _
      rw [if_neg (Nat.ne_of_gt (tlt j t hj)), fnd j t hj]
    have hn : ts.length = xs.length := by
      rw [g2]
      simp
      omega
    refine ⟨.ref (s1.heap.objs.size + 5), HN, I1.laidS (t' := s1.toks) keep hSm hOld fun b o n e => ?_, rfl, q _ ts HN hSm (fresh _ (by omega)) hP hn fun j t hj => ?_⟩
    · by_cases hb : b = s1.heap.objs.size + 5
      · subst hb
        rw [hP] at e
        cases e
        exact ⟨by rw [List.length_map]; omega, ts.map Value.ref, c, valsRefs ts, g1⟩
      · have e0 : (match ts.findIdx? (· == b) with | some j => some (HO.tup [xs.getD j .non, ys.getD j .non]) | none => H1 b) = some o := (if_neg hb).symm.trans e
        cases hf : ts.findIdx? (· == b) with
        | none => rw [hf] at e0; rw [n] at e0; cases e0
        | some j =>
          rw [hf] at e0
          cases e0
          obtain ⟨hjl, ej, _⟩ := List.findIdx?_eq_some_iff_getElem.mp hf
          have ej : ts[j] = b := by simpa using ej
          have hj : ts[j]? = some b := by rw [List.getElem?_eq_getElem hjl, ej]
          obtain ⟨_, u, v, eu, ev, ep⟩ := g3 j b hj
          have hxl : j < xs.length := by omega
          have hyl : j < ys.length := by omega
          obtain ⟨u', hu', ru'⟩ := r1.get (List.getElem?_eq_getElem hxl)
          obtain ⟨v', hv', rv'⟩ := r2.get (List.getElem?_eq_getElem hyl)
          have eu' : u' = u := by
            have : its[j]? = some u := by simpa using eu
            rw [this] at hu'
            exact (Option.some.inj hu').symm
          have ev' : v' = v := by
            have : jts[j]? = some v := by simpa using ev
            rw [this] at hv'
            exact (Option.some.inj hv').symm
          subst eu' ev'
          refine ⟨by show 2 ≤ sizeLine; decide, [u', v'], .cons ?_ (.cons ?_ .nil), ⟨_, ep, rfl, _, rfl⟩⟩
          · rw [List.getD_eq_getElem?_getD, List.getElem?_eq_getElem hxl]; exact ru'
          · rw [List.getD_eq_getElem?_getD, List.getElem?_eq_getElem hyl]; exact rv'
    · have hjl : j < ts.length := (List.getElem?_eq_some_iff.mp hj).1
      have hxl : j < xs.length := by omega
      have hyl : j < ys.length := by omega
      refine ⟨xs[j], ys[j], List.getElem?_eq_getElem hxl, List.getElem?_eq_getElem hyl, ?_⟩
      rw [hT j t hj, List.getD_eq_getElem?_getD, List.getElem?_eq_getElem hxl, List.getD_eq_getElem?_getD, List.getElem?_eq_getElem hyl]
      rfl
end
namespace Rd
section
variable {σ : St} {H : Hp} {Q : VK}
theorem lz {K : PySem.W.Frag} {ta : TA} : tLz K ta σ H Q = ta σ H (lzQ K Q) := rfl
theorem lzI {K : PySem.W.Frag} {a b : Addr} : lzQ K Q [.ref a, .ref b] H = ∃ k1 k2 xs ys, Sr.Ab k1 K H a xs ∧ Sr.Ab k2 K H b ys ∧ xs.length = ys.length ∧ ∀ (p : Addr) (ts : List Addr) (H2 : Hp), Same H H2 → H p = none → H2 p = some (.lst (ts.map V.ref)) → ts.length = xs.length →
    (∀ (j : Nat) (t : Addr), ts[j]? = some t → ∃ x y, xs[j]? = some x ∧ ys[j]? = some y ∧ H2 t = some (.tup [x, y])) → Q (.ref p) H2 :=
  propext ⟨fun ⟨k1, k2, _, _, xs, ys, e, p, q, l, r⟩ => by cases e; exact ⟨k1, k2, xs, ys, p, q, l, r⟩, fun ⟨k1, k2, xs, ys, p, q, l, r⟩ => ⟨k1, k2, a, b, xs, ys, rfl, p, q, l, r⟩⟩
end
end Rd
/-- a comprehension over a list of pairs by two names -/
theorem compR_pairs {K : PySem.W.Frag} {a : Addr} {te : TE} {Q : VK} {σ : St} {H : Hp} (ts : List Addr) (xs ys : List V) (R : Nat → V → Prop) (hq : SqL K H a (ts.map V.ref)) (hz : ts.length ≤ sizeLine)
    (ht : ∀ (j : Nat) (t : Addr), ts[j]? = some t → ∃ x y, xs[j]? = some x ∧ ys[j]? = some y ∧ H t = some (.tup [x, y]))
    (hs : ∀ (i : Nat) (x y : V) (H' : Hp) (q : VK), xs[i]? = some x → ys[i]? = some y → Same H H' → (∀ v H4, Same H' H4 → R i v → q v H4) → te (some x :: some y :: σ) H' q)
    (hd : ∀ vs p H1 H2, vs.length = ts.length → (∀ j v, vs[j]? = some v → R j v) → Same H H1 → New H1 p (.lst vs) H2 → Q (.ref p) H2) :
    Rd.CompP 2 (gTup K 2 (gCons (gName 0) (gCons (gName 1) gNil))) tAll te σ Q (Itl K a) H := by
  refine compA_list (ts.map V.ref) (fun i vs σ' H' => vs.length = i ∧ (∀ j v, vs[j]? = some v → R j v) ∧ (∃ b c, σ' = b :: c :: σ) ∧ Same H H') ⟨rfl, by simp, ⟨none, none, rfl⟩, Same.refl _⟩ (fun i vs σ' H' _ h => h.2.2.2.seq hq) (by simpa using hz) (fun i vs σ' H' h => Nat.le_of_eq h.1) ?_ ?_
  · rintro i v vs σ' H' hi ⟨hl, hr, ⟨b', c', rfl⟩, s⟩
    rw [List.getElem?_map] at hi
    obtain ⟨t, hti, rfl⟩ := Option.map_eq_some_iff.mp hi
    obtain ⟨x, y, ex, ey, et⟩ := ht i t hti
    refine ⟨t, [x, y], rfl, SqT.of (s _ _ et), rfl, x, [y], rfl, y, [], rfl, rfl, ?_⟩
    show tAll (some x :: some y :: σ) H' _
    rw [Rd.all, if_pos rfl]
    exact hs i x y H' _ ex ey s fun v H4 s4 r => ⟨by simp [hl], push_all hl hr r, ⟨_, _, rfl⟩, s.trans s4⟩
  · rintro vs σ' H' ⟨hl, hr, _, s⟩ p H2 n2
    exact hd vs p H' H2 (by simpa using hl) hr s n2
/-! t.index(x) -/
def rTix (K : PySem.W.Frag) : V → List V → Hp → VK → Prop
  | .ref p, [x], H, Q => ∃ (xs : List V) (j : Nat), SqT K H p xs ∧ flatV x = true ∧ xs.all flatV = true ∧ xs.findIdx? (fun y => eqV y x) = some j ∧ Q (.int j) H
  | _, _, _, _ => False
section
variable {X : Cx}
end
namespace Rd
section
variable {H : Hp} {Q : VK}
theorem tix {K : PySem.W.Frag} {p : Addr} {x : V} : rTix K (.ref p) [x] H Q = ∃ (xs : List V) (j : Nat), SqT K H p xs ∧ flatV x = true ∧ xs.all flatV = true ∧ xs.findIdx? (fun y => eqV y x) = some j ∧ Q (.int j) H := rfl
end
end Rd
/-! a raise that is never reached -/
def sRaise : TS := fun _ _ _ => False
namespace Rd
theorem rse {D : Ends} {σ : St} {H : Hp} : sRaise D σ H = False := rfl
end Rd
end L2
set_option Elab.async false
set_option linter.all false
set_option maxRecDepth 100000
set_option maxHeartbeats 4000000
/-! xs.extend(ys). -/
namespace L2
open PySem PySem.Spec PyProof.Rows
namespace Rd
end Rd
end L2
namespace K02
/-- the bits of n, the lowest first -/
def bits : Nat → Int → List Int
  | 0, _ => []
  | w + 1, n => n % 2 :: bits w (n / 2)
def joined : List Int → Int
  | [] => 0
  | b :: bs => (if b = 1 then 1 else 0) + 2 * joined bs
theorem bits_length : ∀ (w : Nat) (n : Int), (bits w n).length = w
  | 0, _ => rfl
  | w + 1, n => by simp [bits, bits_length w]
theorem bits_get : ∀ (w : Nat) (n : Int) (k : Nat), k < w → (bits w n)[k]? = some (n / 2 ^ k % 2)
  | 0, _, _, h => by omega
  | w + 1, n, 0, _ => by simp [bits]
  | w + 1, n, k + 1, h => by
    have ih := bits_get w (n / 2) k (by omega)
    show (n % 2 :: bits w (n / 2))[k + 1]? = _
    rw [List.getElem?_cons_succ, ih, Int.ediv_ediv, if_neg (by omega), Int.sub_zero, Int.pow_succ, Int.mul_comm]
theorem bits_eq (w : Nat) (n : Int) : bits w n = (List.range w).map fun k => n / 2 ^ k % 2 := by
  apply List.ext_getElem?
  intro k
  by_cases h : k < w
  · rw [bits_get w n k h]; simp [h]
  · rw [List.getElem?_eq_none (by rw [bits_length]; omega), List.getElem?_eq_none (by simp; omega)]
/-- the sum of the powers at the places that hold 1, from place j on -/
theorem joined_sum : ∀ (bs : List Int) (j : Nat), (((List.range bs.length).filter fun k => bs.getD k 0 == 1).map fun k => (2 : Int) ^ (k + j)).sum = 2 ^ j * joined bs
  | [], j => by simp [joined]
  | b :: bs, j => by
    have ih := joined_sum bs (j + 1)
    rw [List.length_cons, List.range_succ_eq_map, List.filter_cons, List.filter_map]
    have e : ((fun k => (b :: bs).getD k 0 == 1) ∘ Nat.succ) = fun k => bs.getD k 0 == 1 := by
      funext k; simp
    rw [e]
    have e2 : ((List.map Nat.succ ((List.range bs.length).filter fun k => bs.getD k 0 == 1)).map fun k => (2 : Int) ^ (k + j)) = ((List.range bs.length).filter fun k => bs.getD k 0 == 1).map fun k => (2 : Int) ^ (k + (j + 1)) := by
      rw [List.map_map]
      apply List.map_congr_left
      intro k _
      show (2 : Int) ^ (k + 1 + j) = 2 ^ (k + (j + 1))
      congr 1
      omega
    have e3 : (b :: bs).getD 0 0 = b := rfl
    rw [e3]
    by_cases hb : b = 1
    · subst hb
      rw [if_pos (by decide), List.map_cons, List.sum_cons, e2, ih]
      show (2 : Int) ^ (0 + j) + 2 ^ (j + 1) * joined bs = 2 ^ j * ((if (1 : Int) = 1 then 1 else 0) + 2 * joined bs)
      rw [if_pos rfl, Nat.zero_add, Int.pow_succ, Int.mul_add, Int.mul_one, Int.mul_assoc]
    · rw [if_neg (by simpa using hb), e2, ih]
      show (2 : Int) ^ (j + 1) * joined bs = 2 ^ j * ((if b = 1 then 1 else 0) + 2 * joined bs)
      rw [if_neg hb, Int.zero_add, Int.pow_succ, Int.mul_assoc]
theorem joined_eq (bs : List Int) : (((List.range bs.length).filter fun k => bs.getD k 0 == 1).map fun k => (1 : Int) * 2 ^ k).sum = joined bs := by
  have := joined_sum bs 0
  simpa using this
/-- what the pairs of bits make, place by place -/
def both (f : Int → Int → Int) : Nat → Int → Int → Int
  | 0, _, _ => 0
  | w + 1, a, b => (if f (a % 2) (b % 2) = 1 then 1 else 0) + 2 * both f w (a / 2) (b / 2)
theorem joined_zip (f : Int → Int → Int) : ∀ (w : Nat) (a b : Int), joined (List.zipWith f (bits w a) (bits w b)) = both f w a b
  | 0, _, _ => rfl
  | w + 1, a, b => by
    show (if f (a % 2) (b % 2) = 1 then 1 else 0) + 2 * joined (List.zipWith f (bits w (a / 2)) (bits w (b / 2))) = _
    rw [joined_zip f w]
    rfl
def fAnd (a b : Int) : Int := if a + b = 2 then 1 else 0
def fOr (a b : Int) : Int := if a + b > 0 then 1 else 0
def fXor (a b : Int) : Int := if a ≠ b then 1 else 0
def fNot (a _b : Int) : Int := 1 - a
theorem two_cases (a : Int) : a % 2 = 0 ∨ a % 2 = 1 := by omega
theorem both_not : ∀ (w : Nat) (a b : Int), 0 ≤ a → a < 2 ^ w → both fNot w a b = 2 ^ w - 1 - a
  | 0, a, b, h0, h1 => by simp only [both]; omega
  | w + 1, a, b, h0, h1 => by
    have ih := both_not w (a / 2) (b / 2) (by omega) (by rw [Int.pow_succ] at h1; omega)
    show (if fNot (a % 2) (b % 2) = 1 then 1 else 0) + 2 * both fNot w (a / 2) (b / 2) = _
    rw [ih, Int.pow_succ]
    unfold fNot
    rcases two_cases a with h | h <;> rw [h] <;> simp <;> omega
theorem both_and : ∀ (w : Nat) (a b : Nat), a < 2 ^ w → b < 2 ^ w → both fAnd w a b = ((a &&& b : Nat) : Int)
  | 0, a, b, h0, h1 => by
    have : a = 0 := by omega
    subst this
    simp [both]
  | w + 1, a, b, h0, h1 => by
    have ih := both_and w (a / 2) (b / 2) (by rw [Nat.pow_succ] at h0; omega) (by rw [Nat.pow_succ] at h1; omega)
    have e1 : (a &&& b) / 2 = a / 2 &&& b / 2 := Nat.and_div_two
    have e2 : (a &&& b) % 2 = 1 ↔ a % 2 = 1 ∧ b % 2 = 1 := Nat.and_mod_two_eq_one
    show (if fAnd ((a : Int) % 2) ((b : Int) % 2) = 1 then 1 else 0) + 2 * both fAnd w ((a : Int) / 2) ((b : Int) / 2) = _
    have c1 : (a : Int) / 2 = ((a / 2 : Nat) : Int) := by omega
    have c2 : (b : Int) / 2 = ((b / 2 : Nat) : Int) := by omega
    rw [c1, c2, ih, ← e1]
    unfold fAnd
    by_cases ha : a % 2 = 1
    · by_cases hb : b % 2 = 1
      · have := e2.mpr ⟨ha, hb⟩
        rw [if_pos (by omega)]
        omega
      · have : ¬ (a &&& b) % 2 = 1 := fun h => hb (e2.mp h).2
        rw [if_neg (by omega)]
        omega
    · have : ¬ (a &&& b) % 2 = 1 := fun h => ha (e2.mp h).1
      rw [if_neg (by omega)]
      omega
theorem both_or : ∀ (w : Nat) (a b : Nat), a < 2 ^ w → b < 2 ^ w → both fOr w a b = ((a ||| b : Nat) : Int)
  | 0, a, b, h0, h1 => by
    have e1 : a = 0 := by omega
    have e2 : b = 0 := by omega
    subst e1 e2
    rfl
  | w + 1, a, b, h0, h1 => by
    have ih := both_or w (a / 2) (b / 2) (by rw [Nat.pow_succ] at h0; omega) (by rw [Nat.pow_succ] at h1; omega)
    have e1 : (a ||| b) / 2 = a / 2 ||| b / 2 := Nat.or_div_two
    have e2 : (a ||| b) % 2 = 1 ↔ a % 2 = 1 ∨ b % 2 = 1 := Nat.or_mod_two_eq_one
    show (if fOr ((a : Int) % 2) ((b : Int) % 2) = 1 then 1 else 0) + 2 * both fOr w ((a : Int) / 2) ((b : Int) / 2) = _
    have c1 : (a : Int) / 2 = ((a / 2 : Nat) : Int) := by omega
    have c2 : (b : Int) / 2 = ((b / 2 : Nat) : Int) := by omega
    rw [c1, c2, ih, ← e1]
    unfold fOr
    by_cases hab : a % 2 = 1 ∨ b % 2 = 1
    · have := e2.mpr hab
      rw [if_pos (show (a : Int) % 2 + (b : Int) % 2 > 0 by omega), if_pos rfl]
      omega
    · have : ¬ (a ||| b) % 2 = 1 := fun h => hab (e2.mp h)
      rw [if_neg (show ¬ (a : Int) % 2 + (b : Int) % 2 > 0 by omega), if_neg (by decide)]
      omega
theorem both_sub : ∀ (w : Nat) (a b : Int), both fXor w a b = both fOr w a b - both fAnd w a b
  | 0, _, _ => rfl
  | w + 1, a, b => by
    have ih := both_sub w (a / 2) (b / 2)
    show (if fXor (a % 2) (b % 2) = 1 then 1 else 0) + 2 * both fXor w (a / 2) (b / 2) = ((if fOr (a % 2) (b % 2) = 1 then 1 else 0) + 2 * both fOr w (a / 2) (b / 2)) - ((if fAnd (a % 2) (b % 2) = 1 then 1 else 0) + 2 * both fAnd w (a / 2) (b / 2))
    rw [ih]
    unfold fXor fOr fAnd
    rcases two_cases a with h | h <;> rcases two_cases b with h' | h' <;> rw [h, h'] <;> simp <;> omega
theorem both_bound (f : Int → Int → Int) : ∀ (w : Nat) (a b : Int), 0 ≤ both f w a b ∧ both f w a b < 2 ^ w
  | 0, _, _ => by simp [both]
  | w + 1, a, b => by
    have ih := both_bound f w (a / 2) (b / 2)
    show 0 ≤ (if f (a % 2) (b % 2) = 1 then 1 else 0) + 2 * both f w (a / 2) (b / 2) ∧ (if f (a % 2) (b % 2) = 1 then 1 else 0) + 2 * both f w (a / 2) (b / 2) < 2 ^ (w + 1)
    rw [Int.pow_succ]
    split <;> omega
theorem nat_lt {w : Nat} {a : Int} (ha : 0 ≤ a) (ha' : a < 2 ^ w) : a.toNat < 2 ^ w := by
  have : ((2 ^ w : Nat) : Int) = (2 : Int) ^ w := by simp
  omega
theorem both_andI (w : Nat) (a b : Int) (ha : 0 ≤ a) (ha' : a < 2 ^ w) (hb : 0 ≤ b) (hb' : b < 2 ^ w) : both fAnd w a b = ((a.toNat &&& b.toNat : Nat) : Int) := by
  have := both_and w a.toNat b.toNat (nat_lt ha ha') (nat_lt hb hb')
  rw [Int.toNat_of_nonneg ha, Int.toNat_of_nonneg hb] at this
  exact this
theorem both_orI (w : Nat) (a b : Int) (ha : 0 ≤ a) (ha' : a < 2 ^ w) (hb : 0 ≤ b) (hb' : b < 2 ^ w) : both fOr w a b = ((a.toNat ||| b.toNat : Nat) : Int) := by
  have := both_or w a.toNat b.toNat (nat_lt ha ha') (nat_lt hb hb')
  rw [Int.toNat_of_nonneg ha, Int.toNat_of_nonneg hb] at this
  exact this
end K02
set_option Elab.async false
set_option linter.all false
set_option maxRecDepth 100000
set_option maxHeartbeats 4000000
namespace K02
open PySem L2
def top (i : Nat) : Stmt := PySem.Challenge.pw_hostturn_k02_reckoned.main.body.getD i (.Pass ⟨0, 0, 0, 0⟩)
abbrev s_fit : Stmt := top 2
theorem sc_fit : FnScope ["width", "number"] ["width", "number"] (defScope s_fit) := ⟨rfl, rfl, rfl, by decide +kernel, rfl, by decide +kernel, by decide +kernel⟩
theorem st_fit {x0 x1 : V} : start ["width", "number"] [x0, x1] = [some x0, some x1] := rfl
abbrev s_reckoned : Stmt := top 3
theorem sc_reckoned : FnScope ["width", "word", "one", "other"] ["width", "word", "one", "other"] (defScope s_reckoned) := ⟨rfl, rfl, rfl, by decide +kernel, rfl, by decide +kernel, by decide +kernel⟩
theorem st_reckoned {x0 x1 x2 x3 : V} : start ["width", "word", "one", "other"] [x0, x1, x2, x3] = [some x0, some x1, some x2, some x3] := rfl
abbrev s_unfitted : Stmt := top 4
theorem sc_unfitted : FnScope ["word", "one", "other"] ["word", "one", "other"] (defScope s_unfitted) := ⟨rfl, rfl, rfl, by decide +kernel, rfl, by decide +kernel, by decide +kernel⟩
theorem st_unfitted {x0 x1 x2 : V} : start ["word", "one", "other"] [x0, x1, x2] = [some x0, some x1, some x2] := rfl
abbrev s_unfitted_of_two : Stmt := top 5
theorem sc_unfitted_of_two : FnScope ["word", "one", "other"] ["word", "one", "other"] (defScope s_unfitted_of_two) := ⟨rfl, rfl, rfl, by decide +kernel, rfl, by decide +kernel, by decide +kernel⟩
theorem st_unfitted_of_two {x0 x1 x2 : V} : start ["word", "one", "other"] [x0, x1, x2] = [some x0, some x1, some x2] := rfl
abbrev s__law_cell_at : Stmt := top 7
theorem sc__law_cell_at : FnScope ["_law_script", "_law_k"] ["_law_script", "_law_k"] (defScope s__law_cell_at) := ⟨rfl, rfl, rfl, by decide +kernel, rfl, by decide +kernel, by decide +kernel⟩
theorem st__law_cell_at {x0 x1 : V} : start ["_law_script", "_law_k"] [x0, x1] = [some x0, some x1] := rfl
abbrev s__law_mixed : Stmt := top 8
theorem sc__law_mixed : FnScope ["_law_cell", "_law_k", "_law_number_here"] ["_law_cell", "_law_k"] (defScope s__law_mixed) := ⟨rfl, rfl, rfl, by decide +kernel, rfl, by decide +kernel, by decide +kernel⟩
theorem st__law_mixed {x0 x1 : V} : start ["_law_cell", "_law_k", "_law_number_here"] [x0, x1] = [some x0, some x1, none] := rfl
abbrev s__law_number : Stmt := top 9
theorem sc__law_number : FnScope ["_law_cell", "_law_width", "_law_near", "_law_some"] ["_law_cell", "_law_width"] (defScope s__law_number) := ⟨rfl, rfl, rfl, by decide +kernel, rfl, by decide +kernel, by decide +kernel⟩
theorem st__law_number {x0 x1 : V} : start ["_law_cell", "_law_width", "_law_near", "_law_some"] [x0, x1] = [some x0, some x1, none, none] := rfl
abbrev s__law_bits : Stmt := top 10
theorem sc__law_bits : FnScope ["_law_number_here", "_law_width"] ["_law_number_here", "_law_width"] (defScope s__law_bits) := ⟨rfl, rfl, rfl, by decide +kernel, rfl, by decide +kernel, by decide +kernel⟩
theorem st__law_bits {x0 x1 : V} : start ["_law_number_here", "_law_width"] [x0, x1] = [some x0, some x1] := rfl
abbrev s__law_joined : Stmt := top 11
theorem sc__law_joined : FnScope ["_law_bits_here"] ["_law_bits_here"] (defScope s__law_joined) := ⟨rfl, rfl, rfl, by decide +kernel, rfl, by decide +kernel, by decide +kernel⟩
theorem st__law_joined {x0 : V} : start ["_law_bits_here"] [x0] = [some x0] := rfl
abbrev s__law_due : Stmt := top 12
theorem sc__law_due : FnScope ["_law_word", "_law_width", "_law_one", "_law_other", "_law_pairs"] ["_law_word", "_law_width", "_law_one", "_law_other"] (defScope s__law_due) := ⟨rfl, rfl, rfl, by decide +kernel, rfl, by decide +kernel, by decide +kernel⟩
theorem st__law_due {x0 x1 x2 x3 : V} : start ["_law_word", "_law_width", "_law_one", "_law_other", "_law_pairs"] [x0, x1, x2, x3] = [some x0, some x1, some x2, some x3, none] := rfl
abbrev s_law : Stmt := top 13
theorem sc_law : FnScope ["_law_script", "_law_width", "_law_cells", "_law_k", "_law_one", "_law_other", "_law_word", "_law_found"] ["_law_script"] (defScope s_law) := ⟨rfl, rfl, rfl, by decide +kernel, rfl, by decide +kernel, by decide +kernel⟩
theorem st_law {x0 : V} : start ["_law_script", "_law_width", "_law_cells", "_law_k", "_law_one", "_law_other", "_law_word", "_law_found"] [x0] = [some x0, none, none, none, none, none, none, none] := rfl
local macro_rules | `(tactic| walk_at "sq") => `(tactic| first
  | assumption
  | exact SqL.of (by assumption)
  | exact SqT.of (by assumption)
  | exact sq_at (by assumption)
  | exact st_at (by assumption)
  | exact at_at (by assumption)
  | exact Same.refl _
  | (refine sq_new (by assumption) ?_; walk_at "sq")
  | (refine sq_same (by assumption) ?_; walk_at "sq")
  | (refine st_new (by assumption) ?_; walk_at "sq")
  | (refine st_same (by assumption) ?_; walk_at "sq")
  | (refine sm_new (by assumption) ?_; walk_at "sq")
  | (refine sm_same (by assumption) ?_; walk_at "sq")
  | (refine at_new (by assumption) ?_; walk_at "sq")
  | (refine at_same (by assumption) ?_; walk_at "sq"))
def W (w : Int) : Prop := w = 8 ∨ w = 16 ∨ w = 32
def spans : List (Key × V) := [(.inl 8, .int 256), (.inl 16, .int 65536), (.inl 32, .int 4294967296)]
theorem span_at {w : Int} (h : W w) : valV spans (.inl w) = some (.int (2 ^ w.toNat)) := by
  rcases h with rfl | rfl | rfl <;> decide +kernel
/-- the powers -/
theorem pw {w : Int} (h : W w) : (2 : Int) ^ w.toNat = 2 * 2 ^ (w - 1).toNat ∧ 0 < (2 : Int) ^ (w - 1).toNat ∧ 0 ≤ w - 1 ∧ w ≤ 32 ∧ (2 : Int) ^ w.toNat ≤ 4294967296 := by
  rcases h with rfl | rfl | rfl <;> decide
/-- a width out of the written three -/
theorem pick3 (r : Int) : ∃ w, W w ∧ atI [V.int 8, V.int 16, V.int 32] (r % 3) = some (.int w) := by
  have h : r % 3 = 0 ∨ r % 3 = 1 ∨ r % 3 = 2 := by omega
  rcases h with h | h | h <;> rw [h]
  · exact ⟨8, .inl rfl, rfl⟩
  · exact ⟨16, .inr (.inl rfl), rfl⟩
  · exact ⟨32, .inr (.inr rfl), rfl⟩
theorem atI_ints {ns : List Int} {k : Int} (h0 : 0 ≤ k) (h1 : k < (ns.length : Int)) : atI (ns.map V.int) k = some (.int (ns.getD k.toNat 0)) := by
  obtain ⟨j, rfl⟩ := Int.eq_ofNat_of_zero_le h0
  have hj : j < ns.length := by omega
  exact atI_nat (by simp [hj])
/-- a place of either sign -/
theorem atI_some {xs : List V} {k : Int} (h0 : -(xs.length : Int) ≤ k) (h1 : k < (xs.length : Int)) : ∃ v ∈ xs, atI xs k = some v := by
  unfold atI ixN
  by_cases h : 0 ≤ k
  · rw [if_pos h, if_pos h1]
    have hj : k.toNat < xs.length := by omega
    exact ⟨xs[k.toNat], List.getElem_mem hj, by simp [hj]⟩
  · rw [if_neg h, if_pos h0]
    have hj : (k + (xs.length : Int)).toNat < xs.length := by omega
    exact ⟨xs[(k + (xs.length : Int)).toNat], List.getElem_mem hj, by simp [hj]⟩
def Ints (xs : List V) : Prop := ∀ x ∈ xs, ∃ n : Int, x = .int n
theorem ints_map (ns : List Int) : Ints (ns.map V.int) := fun x hx => by
  obtain ⟨n, _, rfl⟩ := List.mem_map.mp hx
  exact ⟨n, rfl⟩
theorem ints_cut {xs : List V} (h : Ints xs) (lo hi : Option Int) : Ints (cutV xs lo hi) := fun x hx => h x (List.mem_of_mem_drop (List.mem_of_mem_take hx))
theorem ints_app {xs ys : List V} (h : Ints xs) (h' : Ints ys) : Ints (xs ++ ys) := fun x hx => (List.mem_append.mp hx).elim (h x) (h' x)
theorem ints_at {xs : List V} (h : Ints xs) {k : Int} (h0 : -(xs.length : Int) ≤ k) (h1 : k < (xs.length : Int)) : ∃ n : Int, atI xs k = some (.int n) := by
  obtain ⟨v, hv, e⟩ := atI_some h0 h1
  obtain ⟨n, rfl⟩ := h v hv
  exact ⟨n, e⟩
structure Bls (mg : Str → Option Value) : Prop where
  len : mg "len" = none
  isinstance : mg "isinstance" = none
  int : mg "int" = none
  bool : mg "bool" = none
  sum : mg "sum" = none
  list : mg "list" = none
  zip : mg "zip" = none
  range : mg "range" = none
def sgn (w n : Int) : Int := if 2 ^ (w - 1).toNat ≤ n then n - 2 ^ w.toNat else n
def sp_fit : Sp
  | [.int w, .int n], H, Q, _ => W w ∧ Q (.int (n % 2 ^ w.toNat)) H
  | _, _, _, _ => False
theorem rd_fit {w n : Int} {H : Hp} {Q : VK} {E : XK} : sp_fit [.int w, .int n] H Q E = (W w ∧ Q (.int (n % 2 ^ w.toNat)) H) := rfl
local macro_rules | `(tactic| walk_at "vc0") => `(tactic| try simp only [↓Rd.cxK, ↓Rd.tix, ↓Rd.zp, ↓Rd.zpI, ↓Rd.lz, ↓Rd.lzI, ↓Rd.rse, ↓Rd.meC, ↓Rd.meQ, ↓Rd.mkC, ↓Rd.sfA, ↓Rd.sfQ, ↓Rd.fdE, ↓Rd.fdR, ↓Rd.isiO, ↓Rd.join, ↓Rd.ixS, ↓Rd.addS, ↓Rd.rv, ↓Rd.rvI, ↓Rd.revE, ↓Rd.split, ↓Rd.cxKn, ↓Rd.glst, ↓Rd.lstA, ↓Rd.tupA, ↓Rd.catA, ↓Rd.repA, ↓Rd.slLA, ↓Rd.listA, ↓Rd.appA, ↓Rd.setA, ↓Rd.v0, ↓Rd.v1, ↓Rd.v2, ↓Rd.v3, ↓Rd.v4, ↓Rd.v5, ↓Rd.v6, ↓Rd.v7, ↓Rd.v8, ↓Rd.v9, ↓Rd.v10, ↓Rd.v11, ↓Rd.v12, ↓Rd.v13, ↓Rd.v14, ↓Rd.v15, ↓Rd.v16, ↓Rd.v17, ↓Rd.v18, ↓Rd.v19, ↓Rd.v20, ↓Rd.v21, ↓Rd.v22, ↓Rd.v23, ↓Rd.g0, ↓Rd.g1, ↓Rd.g2, ↓Rd.g3, ↓Rd.g4, ↓Rd.g5, ↓Rd.g6, ↓Rd.g7, ↓Rd.g8, ↓Rd.g9, ↓Rd.g10, ↓Rd.g11, ↓Rd.g12, ↓Rd.g13, ↓Rd.g14, ↓Rd.g15, ↓Rd.g16, ↓Rd.g17, ↓Rd.g18, ↓Rd.g19, ↓Rd.g20, ↓Rd.g21, ↓Rd.g22, ↓Rd.g23, ↓Rd.isB_bl, ↓Rd.seq, ↓Rd.nxt, ↓Rd.brk, ↓Rd.cnt, ↓Rd.drp, ↓Rd.ret, ↓Rd.retN, ↓Rd.ifS, ↓Rd.asg, ↓Rd.cst, ↓Rd.op, ↓Rd.I0, ↓Rd.I1, ↓Rd.eqI, ↓Rd.neI, ↓Rd.eqS, ↓Rd.neS, ↓Rd.eqB, ↓Rd.neB, ↓Rd.un, ↓Rd.U, ↓Rd.tst, ↓Rd.tb, ↓Rd.and, ↓Rd.or, ↓Rd.not, ↓Rd.andV, ↓Rd.orV, ↓Rd.notV, ↓Rd.tif, ↓Rd.tifC, ↓Rd.chn, ↓Rd.nil, ↓Rd.cons, ↓Rd.cb, ↓Rd.call, ↓Rd.lst, ↓Rd.tup, ↓Rd.tabE, ↓Rd.tabI, ↓Rd.tabS, ↓Rd.ixL, ↓Rd.ixT, ↓Rd.slc, ↓Rd.part, ↓Rd.partI, ↓Rd.noPart, ↓Rd.slL, ↓Rd.cat, ↓Rd.frr, ↓Rd.cmp, ↓Rd.itl, ↓Rd.itlR, ↓Rd.itt, ↓Rd.ittR, ↓Rd.rg, ↓Rd.rgI, ↓Rd.lenL, ↓Rd.lenS, ↓Rd.isiII, ↓Rd.isiIB, ↓Rd.isiSS, ↓Rd.isiTT, ↓Rd.isiLL, ↓Rd.sumL, ↓Rd.allL, ↓Rd.intI, ↓Rd.intB, ↓Rd.listOf, ↓Rd.strI, ↓Rd.bm, ↓Rd.app, ↓Rd.inSeq, ↓Rd.eqD, ↓Rd.neD, ↓Rd.sub, ↓Rd.setL, ↓Rd.gtup, ↓Rd.gnil, ↓Rd.gcons, ↓Rd.all, not_true_eq_false, not_false_eq_true, Int.one_mul, CDiv, CPow, CMul, Int.natAbs_one, Rd.nab10, Rd.nab2, Nat.reduceLT, true_or, or_true, Int.reduceLT, Int.reduceLE, true_and, and_true, and_self, Int.reduceToNat, Int.reduceMul, Int.reduceSub, Int.reduceAdd, Int.reduceNeg, Int.reducePow, List.length_cons, List.length_nil, Nat.reduceAdd, Nat.zero_add, sizeLine_eq, Nat.reduceLeDiff, Nat.reducePow, decide_eq_true_eq, Bool.not_eq_eq_eq_not, Bool.not_true, Bool.not_false, decide_eq_false_iff_not, eq_self, ↓reduceIte, reduceCtorEq, Bool.false_eq_true])
section
variable {P : Program} {w : World} {K : PySem.W.Frag} {mg : Str → Option Value} {base : Heap} {f dS : Addr} {fd : FuncData}
theorem ok_fit (F : Fun K "fit" "fit" s_fit f fd) (M : mg "SPANS" = some (.ref dS)) (tb_SPANS : TabK P w K dS spans) : FnOk P w K mg base CX0 1 f fd ["width", "number"] sp_fit := by
  refine F.ok sc_fit (fun vs H Q E h => by match vs, h with | [.int _, .int _], _ => rfl) (fun cdv A outer s H vs Q E hr h => ?_)
  match vs, h with
  | [.int w', .int n], ⟨hw, k⟩ =>
    refine ⟨_, (pss_one (ps_ret (pe_op op_mod (pv 1) (pe_tab M rfl tb_SPANS (pv 0))))), ?_⟩
    have hp := pw hw
    rw [st_fit]
    walk_at "vc0"
    exact ⟨_, span_at hw, by walk_at "vc0"; exact ⟨by omega, k⟩⟩
end
def unf2 (x : Str) (a b : Int) : Int :=
  if x = "add" then a + b else if x = "sub" then a - b else if x = "and" then Builtin.bitAnd a b else if x = "or" then Builtin.bitOr a b else Builtin.bitXor a b
def unf (x : Str) (a b : Int) : Int := if x = "not" then -1 - a else if x = "left" then a + a else if x = "right" then a / 2 else unf2 x a b
def sp_unf2 : Sp
  | [.str x, .int a, .int b], H, Q, _ => Q (.int (unf2 x a b)) H
  | _, _, _, _ => False
theorem rd_unf2 {x : Str} {a b : Int} {H : Hp} {Q : VK} {E : XK} : sp_unf2 [.str x, .int a, .int b] H Q E = Q (.int (unf2 x a b)) H := rfl
def sp_unf : Sp
  | [.str x, .int a, .int b], H, Q, _ => Q (.int (unf x a b)) H
  | _, _, _, _ => False
theorem rd_unf {x : Str} {a b : Int} {H : Hp} {Q : VK} {E : XK} : sp_unf [.str x, .int a, .int b] H Q E = Q (.int (unf x a b)) H := rfl
def sp_reckoned : Sp
  | [.int w, .str x, .int a, .int b], H, Q, _ => W w ∧ Q (.int (unf x a b % 2 ^ w.toNat)) H
  | _, _, _, _ => False
theorem rd_reckoned {w a b : Int} {x : Str} {H : Hp} {Q : VK} {E : XK} : sp_reckoned [.int w, .str x, .int a, .int b] H Q E = (W w ∧ Q (.int (unf x a b % 2 ^ w.toNat)) H) := rfl
local macro_rules | `(tactic| walk_at "vc1") => `(tactic| try simp only [↓Rd.cxK, ↓Rd.tix, ↓Rd.zp, ↓Rd.zpI, ↓Rd.lz, ↓Rd.lzI, ↓Rd.rse, ↓Rd.meC, ↓Rd.meQ, ↓Rd.mkC, ↓Rd.sfA, ↓Rd.sfQ, ↓Rd.fdE, ↓Rd.fdR, ↓Rd.isiO, ↓Rd.join, ↓Rd.ixS, ↓Rd.addS, ↓Rd.rv, ↓Rd.rvI, ↓Rd.revE, ↓Rd.split, ↓Rd.cxKn, ↓Rd.glst, ↓Rd.lstA, ↓Rd.tupA, ↓Rd.catA, ↓Rd.repA, ↓Rd.slLA, ↓Rd.listA, ↓Rd.appA, ↓Rd.setA, ↓Rd.v0, ↓Rd.v1, ↓Rd.v2, ↓Rd.v3, ↓Rd.v4, ↓Rd.v5, ↓Rd.v6, ↓Rd.v7, ↓Rd.v8, ↓Rd.v9, ↓Rd.v10, ↓Rd.v11, ↓Rd.v12, ↓Rd.v13, ↓Rd.v14, ↓Rd.v15, ↓Rd.v16, ↓Rd.v17, ↓Rd.v18, ↓Rd.v19, ↓Rd.v20, ↓Rd.v21, ↓Rd.v22, ↓Rd.v23, ↓Rd.g0, ↓Rd.g1, ↓Rd.g2, ↓Rd.g3, ↓Rd.g4, ↓Rd.g5, ↓Rd.g6, ↓Rd.g7, ↓Rd.g8, ↓Rd.g9, ↓Rd.g10, ↓Rd.g11, ↓Rd.g12, ↓Rd.g13, ↓Rd.g14, ↓Rd.g15, ↓Rd.g16, ↓Rd.g17, ↓Rd.g18, ↓Rd.g19, ↓Rd.g20, ↓Rd.g21, ↓Rd.g22, ↓Rd.g23, ↓Rd.isB_bl, ↓Rd.seq, ↓Rd.nxt, ↓Rd.brk, ↓Rd.cnt, ↓Rd.drp, ↓Rd.ret, ↓Rd.retN, ↓Rd.ifS, ↓Rd.asg, ↓Rd.cst, ↓Rd.op, ↓Rd.I0, ↓Rd.I1, ↓Rd.eqI, ↓Rd.neI, ↓Rd.eqS, ↓Rd.neS, ↓Rd.eqB, ↓Rd.neB, ↓Rd.un, ↓Rd.U, ↓Rd.tst, ↓Rd.tb, ↓Rd.and, ↓Rd.or, ↓Rd.not, ↓Rd.andV, ↓Rd.orV, ↓Rd.notV, ↓Rd.tif, ↓Rd.tifC, ↓Rd.chn, ↓Rd.nil, ↓Rd.cons, ↓Rd.cb, ↓Rd.call, ↓Rd.lst, ↓Rd.tup, ↓Rd.tabE, ↓Rd.tabI, ↓Rd.tabS, ↓Rd.ixL, ↓Rd.ixT, ↓Rd.slc, ↓Rd.part, ↓Rd.partI, ↓Rd.noPart, ↓Rd.slL, ↓Rd.cat, ↓Rd.frr, ↓Rd.cmp, ↓Rd.itl, ↓Rd.itlR, ↓Rd.itt, ↓Rd.ittR, ↓Rd.rg, ↓Rd.rgI, ↓Rd.lenL, ↓Rd.lenS, ↓Rd.isiII, ↓Rd.isiIB, ↓Rd.isiSS, ↓Rd.isiTT, ↓Rd.isiLL, ↓Rd.sumL, ↓Rd.allL, ↓Rd.intI, ↓Rd.intB, ↓Rd.listOf, ↓Rd.strI, ↓Rd.bm, ↓Rd.app, ↓Rd.inSeq, ↓Rd.eqD, ↓Rd.neD, ↓Rd.sub, ↓Rd.setL, ↓Rd.gtup, ↓Rd.gnil, ↓Rd.gcons, ↓Rd.all, not_true_eq_false, not_false_eq_true, Int.one_mul, CDiv, CPow, CMul, Int.natAbs_one, Rd.nab10, Rd.nab2, Nat.reduceLT, true_or, or_true, Int.reduceLT, Int.reduceLE, true_and, and_true, and_self, Int.reduceToNat, Int.reduceMul, Int.reduceSub, Int.reduceAdd, Int.reduceNeg, Int.reducePow, List.length_cons, List.length_nil, Nat.reduceAdd, Nat.zero_add, sizeLine_eq, Nat.reduceLeDiff, Nat.reducePow, decide_eq_true_eq, Bool.not_eq_eq_eq_not, Bool.not_true, Bool.not_false, decide_eq_false_iff_not, eq_self, ↓reduceIte, reduceCtorEq, Bool.false_eq_true, ↓rd_unf2])
local macro_rules | `(tactic| walk_at "vc2") => `(tactic| try simp only [↓Rd.cxK, ↓Rd.tix, ↓Rd.zp, ↓Rd.zpI, ↓Rd.lz, ↓Rd.lzI, ↓Rd.rse, ↓Rd.meC, ↓Rd.meQ, ↓Rd.mkC, ↓Rd.sfA, ↓Rd.sfQ, ↓Rd.fdE, ↓Rd.fdR, ↓Rd.isiO, ↓Rd.join, ↓Rd.ixS, ↓Rd.addS, ↓Rd.rv, ↓Rd.rvI, ↓Rd.revE, ↓Rd.split, ↓Rd.cxKn, ↓Rd.glst, ↓Rd.lstA, ↓Rd.tupA, ↓Rd.catA, ↓Rd.repA, ↓Rd.slLA, ↓Rd.listA, ↓Rd.appA, ↓Rd.setA, ↓Rd.v0, ↓Rd.v1, ↓Rd.v2, ↓Rd.v3, ↓Rd.v4, ↓Rd.v5, ↓Rd.v6, ↓Rd.v7, ↓Rd.v8, ↓Rd.v9, ↓Rd.v10, ↓Rd.v11, ↓Rd.v12, ↓Rd.v13, ↓Rd.v14, ↓Rd.v15, ↓Rd.v16, ↓Rd.v17, ↓Rd.v18, ↓Rd.v19, ↓Rd.v20, ↓Rd.v21, ↓Rd.v22, ↓Rd.v23, ↓Rd.g0, ↓Rd.g1, ↓Rd.g2, ↓Rd.g3, ↓Rd.g4, ↓Rd.g5, ↓Rd.g6, ↓Rd.g7, ↓Rd.g8, ↓Rd.g9, ↓Rd.g10, ↓Rd.g11, ↓Rd.g12, ↓Rd.g13, ↓Rd.g14, ↓Rd.g15, ↓Rd.g16, ↓Rd.g17, ↓Rd.g18, ↓Rd.g19, ↓Rd.g20, ↓Rd.g21, ↓Rd.g22, ↓Rd.g23, ↓Rd.isB_bl, ↓Rd.seq, ↓Rd.nxt, ↓Rd.brk, ↓Rd.cnt, ↓Rd.drp, ↓Rd.ret, ↓Rd.retN, ↓Rd.ifS, ↓Rd.asg, ↓Rd.cst, ↓Rd.op, ↓Rd.I0, ↓Rd.I1, ↓Rd.eqI, ↓Rd.neI, ↓Rd.eqS, ↓Rd.neS, ↓Rd.eqB, ↓Rd.neB, ↓Rd.un, ↓Rd.U, ↓Rd.tst, ↓Rd.tb, ↓Rd.and, ↓Rd.or, ↓Rd.not, ↓Rd.andV, ↓Rd.orV, ↓Rd.notV, ↓Rd.tif, ↓Rd.tifC, ↓Rd.chn, ↓Rd.nil, ↓Rd.cons, ↓Rd.cb, ↓Rd.call, ↓Rd.lst, ↓Rd.tup, ↓Rd.tabE, ↓Rd.tabI, ↓Rd.tabS, ↓Rd.ixL, ↓Rd.ixT, ↓Rd.slc, ↓Rd.part, ↓Rd.partI, ↓Rd.noPart, ↓Rd.slL, ↓Rd.cat, ↓Rd.frr, ↓Rd.cmp, ↓Rd.itl, ↓Rd.itlR, ↓Rd.itt, ↓Rd.ittR, ↓Rd.rg, ↓Rd.rgI, ↓Rd.lenL, ↓Rd.lenS, ↓Rd.isiII, ↓Rd.isiIB, ↓Rd.isiSS, ↓Rd.isiTT, ↓Rd.isiLL, ↓Rd.sumL, ↓Rd.allL, ↓Rd.intI, ↓Rd.intB, ↓Rd.listOf, ↓Rd.strI, ↓Rd.bm, ↓Rd.app, ↓Rd.inSeq, ↓Rd.eqD, ↓Rd.neD, ↓Rd.sub, ↓Rd.setL, ↓Rd.gtup, ↓Rd.gnil, ↓Rd.gcons, ↓Rd.all, not_true_eq_false, not_false_eq_true, Int.one_mul, CDiv, CPow, CMul, Int.natAbs_one, Rd.nab10, Rd.nab2, Nat.reduceLT, true_or, or_true, Int.reduceLT, Int.reduceLE, true_and, and_true, and_self, Int.reduceToNat, Int.reduceMul, Int.reduceSub, Int.reduceAdd, Int.reduceNeg, Int.reducePow, List.length_cons, List.length_nil, Nat.reduceAdd, Nat.zero_add, sizeLine_eq, Nat.reduceLeDiff, Nat.reducePow, decide_eq_true_eq, Bool.not_eq_eq_eq_not, Bool.not_true, Bool.not_false, decide_eq_false_iff_not, eq_self, ↓reduceIte, reduceCtorEq, Bool.false_eq_true, ↓rd_unf, ↓rd_fit])
section
variable {P : Program} {w : World} {K : PySem.W.Frag} {mg : Str → Option Value} {base : Heap} {f : Addr} {fd : FuncData}
theorem ok_unfitted_of_two (F : Fun K "unfitted_of_two" "unfitted_of_two" s_unfitted_of_two f fd) : FnOk P w K mg base CX0 1 f fd ["word", "one", "other"] sp_unf2 := by
  refine F.ok sc_unfitted_of_two (fun vs H Q E h => by match vs, h with | [.str _, .int _, .int _], _ => rfl) (fun cdv A outer s H vs Q E hr h => ?_)
  match vs, h with
  | [.str x, .int a, .int b], k =>
    refine ⟨_, (pss_cons (ps_if (pt_cmpR op_eq (pv 0) pe_str (nomk _)) (pss_one (ps_ret (pe_op op_add (pv 1) (pv 2)))) pss_nil)
      (pss_cons (ps_if (pt_cmpR op_eq (pv 0) pe_str (nomk _)) (pss_one (ps_ret (pe_op op_sub (pv 1) (pv 2)))) pss_nil)
      (pss_cons (ps_if (pt_cmpR op_eq (pv 0) pe_str (nomk _)) (pss_one (ps_ret (pe_op op_and (pv 1) (pv 2)))) pss_nil)
      (pss_cons (ps_if (pt_cmpR op_eq (pv 0) pe_str (nomk _)) (pss_one (ps_ret (pe_op op_or (pv 1) (pv 2)))) pss_nil)
      (pss_one (ps_ret (pe_op op_xor (pv 1) (pv 2)))))))), ?_⟩
    rw [st_unfitted_of_two]
    walk_at "vc0"
    have k : Q (.int (unf2 x a b)) H := k
    unfold unf2 at k
    refine ite2 (fun h => ?_) (fun h => ?_)
    · rw [if_pos h] at k; exact k
    rw [if_neg h] at k
    refine ite2 (fun h => ?_) (fun h => ?_)
    · rw [if_pos h] at k; exact k
    rw [if_neg h] at k
    refine ite2 (fun h => ?_) (fun h => ?_)
    · rw [if_pos h] at k; exact k
    rw [if_neg h] at k
    refine ite2 (fun h => ?_) (fun h => ?_)
    · rw [if_pos h] at k; exact k
    rw [if_neg h] at k
    exact k
theorem ok_unfitted (F : Fun K "unfitted" "unfitted" s_unfitted f fd) (c_unfitted_of_two : Cal P w K mg base "unfitted_of_two" 1 ["word", "one", "other"] sp_unf2) : FnOk P w K mg base CX0 2 f fd ["word", "one", "other"] sp_unf := by
  refine F.ok sc_unfitted (fun vs H Q E h => by match vs, h with | [.str _, .int _, .int _], _ => rfl) (fun cdv A outer s H vs Q E hr h => ?_)
  match vs, h with
  | [.str x, .int a, .int b], k =>
    refine ⟨_, (pss_cons (ps_if (pt_cmpR op_eq (pv 0) pe_str (nomk _)) (pss_one (ps_ret (pe_op op_sub (pe_un un_neg pe_int) (pv 1)))) pss_nil)
      (pss_cons (ps_if (pt_cmpR op_eq (pv 0) pe_str (nomk _)) (pss_one (ps_ret (pe_op op_add (pv 1) (pv 1)))) pss_nil)
      (pss_cons (ps_if (pt_cmpR op_eq (pv 0) pe_str (nomk _)) (pss_one (ps_ret (pe_op op_fdiv (pv 1) pe_int))) pss_nil)
      (pss_one (ps_ret (pe_callC c_unfitted_of_two (hr.mono (by decide)) (pa_cons (pv 0) (pa_cons (pv 1) (pa_cons (pv 2) pa_nil))))))))), ?_⟩
    rw [st_unfitted]
    walk_at "vc1"
    have k : Q (.int (unf x a b)) H := k
    unfold unf at k
    refine ite2 (fun h => ?_) (fun h => ?_)
    · rw [if_pos h] at k; exact k
    rw [if_neg h] at k
    refine ite2 (fun h => ?_) (fun h => ?_)
    · rw [if_pos h] at k; exact k
    rw [if_neg h] at k
    refine ite2 (fun h => ?_) (fun h => ?_)
    · rw [if_pos h] at k; exact k
    rw [if_neg h] at k
    exact k
theorem ok_reckoned (F : Fun K "reckoned" "reckoned" s_reckoned f fd) (c_fit : Cal P w K mg base "fit" 1 ["width", "number"] sp_fit) (c_unfitted : Cal P w K mg base "unfitted" 2 ["word", "one", "other"] sp_unf) : FnOk P w K mg base CX0 3 f fd ["width", "word", "one", "other"] sp_reckoned := by
  refine F.ok sc_reckoned (fun vs H Q E h => by match vs, h with | [.int _, .str _, .int _, .int _], _ => rfl) (fun cdv A outer s H vs Q E hr h => ?_)
  match vs, h with
  | [.int w', .str x, .int a, .int b], ⟨hw, k⟩ =>
    refine ⟨_, (pss_one (ps_ret (pe_callC c_fit (hr.mono (by decide)) (pa_cons (pv 0) (pa_cons (pe_callC c_unfitted (hr.mono (by decide)) (pa_cons (pv 1) (pa_cons (pv 2) (pa_cons (pv 3) pa_nil)))) pa_nil))))), ?_⟩
    rw [st_reckoned]
    walk_at "vc2"
    exact ⟨hw, k⟩
end
def sp_cell (K : PySem.W.Frag) : Sp
  | [.ref a, .int k], H, Q, _ => ∃ ns : List Int, SqL K H a (ns.map V.int) ∧ 0 ≤ k ∧ ∀ r : Int, Q (.int r) H
  | _, _, _, _ => False
theorem rd_cell {K : PySem.W.Frag} {a : Addr} {k : Int} {H : Hp} {Q : VK} {E : XK} : sp_cell K [.ref a, .int k] H Q E = ∃ ns : List Int, SqL K H a (ns.map V.int) ∧ 0 ≤ k ∧ ∀ r : Int, Q (.int r) H := rfl
section
variable {P : Program} {w : World} {K : PySem.W.Frag} {mg : Str → Option Value} {base : Heap} {f : Addr} {fd : FuncData}
theorem ok__law_cell_at (F : Fun K "_law_cell_at" "_law_cell_at" s__law_cell_at f fd) (B : Bls mg) : FnOk P w K mg base CX0 1 f fd ["_law_script", "_law_k"] (sp_cell K) := by
  refine F.ok sc__law_cell_at (fun vs H Q E h => by match vs, h with | [.ref _, .int _], _ => rfl) (fun cdv A outer s H vs Q E hr h => ?_)
  match vs, h with
  | [.ref a, .int i], ⟨ns, hS, h0, k⟩ =>
    refine ⟨_, (pss_cons (ps_if (pt_cmpR op_lt (pv 1) (pe_callB call_lenR rfl B.len bb_len (pa_cons (pv 0) pa_nil)) (nomk _)) (pss_one (ps_ret (pe_ix ix_list (pv 0) (pv 1) (fun _ _ => rfl)))) pss_nil)
      (pss_one (ps_ret pe_int))), ?_⟩
    rw [st__law_cell_at]
    walk_at "vc0"
    refine ⟨_, .inl hS, ite2 (fun h => ?_) (fun h => ?_)⟩
    · rw [List.length_map] at h
      exact ⟨_, _, hS, atI_ints h0 h, k _⟩
    · exact k _
end
def sp_mixed : Sp
  | [.int _, .int k], H, Q, _ => 0 ≤ k ∧ ∀ r : Int, 0 ≤ r → r < 2147483648 → Q (.int r) H
  | _, _, _, _ => False
theorem rd_mixed {c k : Int} {H : Hp} {Q : VK} {E : XK} : sp_mixed [.int c, .int k] H Q E = (0 ≤ k ∧ ∀ r : Int, 0 ≤ r → r < 2147483648 → Q (.int r) H) := rfl
section
variable {P : Program} {w : World} {K : PySem.W.Frag} {mg : Str → Option Value} {base : Heap} {f : Addr} {fd : FuncData}
theorem ok__law_mixed (F : Fun K "_law_mixed" "_law_mixed" s__law_mixed f fd) : FnOk P w K mg base CX0 1 f fd ["_law_cell", "_law_k"] sp_mixed := by
  refine F.ok sc__law_mixed (fun vs H Q E h => by match vs, h with | [.int _, .int _], _ => rfl) (fun cdv A outer s H vs Q E hr h => ?_)
  match vs, h with
  | [.int c, .int i], ⟨hi, k⟩ =>
    refine ⟨_, (pss_cons (ps_if (PW.pt (pw_and (pt_cmpR op_ge (pv 0) (pe_op op_shl pe_int pe_int) (nomk _)) (pw_and (pt_cmpR op_eq (pe_op op_mod (pv 0) pe_int) pe_int (nomk _)) (pw_and1 (pt_cmpR op_gt (pe_op op_shr (pv 0) (pe_op op_add pe_int (pe_op op_mul pe_int (pv 1)))) pe_int (nomk _)))))) (pss_one (ps_ret (pe_op op_mod (pe_op op_shr (pv 0) (pe_op op_add pe_int (pe_op op_mul pe_int (pv 1)))) pe_int))) pss_nil)
      (pss_cons (ps_set (i := 2) sc__law_mixed.nd rfl (by first | exact Or.inl rfl | exact Or.inr rfl) (pe_op op_mod (pe_op op_mul (pe_op op_add (pe_op op_add (pv 0) (pe_op op_mul pe_int (pv 1))) pe_int) pe_int) pe_int))
      (pss_cons (ps_set (i := 2) sc__law_mixed.nd rfl (by first | exact Or.inl rfl | exact Or.inr rfl) (pe_op op_mod (pe_op op_mul (pv 2) (pe_op op_add (pe_op op_fdiv (pv 2) pe_int) pe_int)) pe_int))
      (pss_one (ps_ret (pe_op op_mod (pe_op op_mul (pv 2) (pe_op op_add (pe_op op_add (pe_op op_fdiv (pv 2) pe_int) pe_int) (pv 1))) pe_int)))))), ?_⟩
    rw [st__law_mixed]
    walk_at "vc0"
    have hx : 0 ≤ (c + 7919 * i + 1) * 48271 % 2147483647 ∧ (c + 7919 * i + 1) * 48271 % 2147483647 < 2147483647 := ⟨by omega, by omega⟩
    generalize (c + 7919 * i + 1) * 48271 % 2147483647 = x at hx ⊢
    have hy : 0 ≤ x * (x / 1009 + 69621) % 2147483647 ∧ x * (x / 1009 + 69621) % 2147483647 < 2147483647 := ⟨Int.emod_nonneg _ (by decide), Int.emod_lt_of_pos _ (by decide)⟩
    generalize x * (x / 1009 + 69621) % 2147483647 = y at hy ⊢
    have hz : 0 ≤ y * (y / 2003 + 39373 + i) % 2147483629 ∧ y * (y / 2003 + 39373 + i) % 2147483629 < 2147483629 := ⟨Int.emod_nonneg _ (by decide), Int.emod_lt_of_pos _ (by decide)⟩
    generalize y * (y / 2003 + 39373 + i) % 2147483629 = z at hz ⊢
    have kz := k z hz.1 (by omega)
    refine ite2 (fun h => ite2 (fun h => ⟨by omega, ite2 (fun h => ⟨by omega, k _ (by omega) (by omega)⟩) (fun h => ⟨.inl (by omega), .inl (by omega), kz⟩)⟩) (fun h => ⟨.inl (by omega), .inl (by omega), kz⟩)) (fun h => ⟨.inl (by omega), .inl (by omega), kz⟩)
end
def sp_number : Sp
  | [.int _, .int w], H, Q, _ => W w ∧ ∀ (r : Int) (H' : Hp), 0 ≤ r → r < 2 ^ w.toNat → Same H H' → Q (.int r) H'
  | _, _, _, _ => False
theorem rd_number {c w : Int} {H : Hp} {Q : VK} {E : XK} : sp_number [.int c, .int w] H Q E = (W w ∧ ∀ (r : Int) (H' : Hp), 0 ≤ r → r < 2 ^ w.toNat → Same H H' → Q (.int r) H') := rfl
local macro_rules | `(tactic| walk_at "vc3") => `(tactic| try simp only [↓Rd.cxK, ↓Rd.tix, ↓Rd.zp, ↓Rd.zpI, ↓Rd.lz, ↓Rd.lzI, ↓Rd.rse, ↓Rd.meC, ↓Rd.meQ, ↓Rd.mkC, ↓Rd.sfA, ↓Rd.sfQ, ↓Rd.fdE, ↓Rd.fdR, ↓Rd.isiO, ↓Rd.join, ↓Rd.ixS, ↓Rd.addS, ↓Rd.rv, ↓Rd.rvI, ↓Rd.revE, ↓Rd.split, ↓Rd.cxKn, ↓Rd.glst, ↓Rd.lstA, ↓Rd.tupA, ↓Rd.catA, ↓Rd.repA, ↓Rd.slLA, ↓Rd.listA, ↓Rd.appA, ↓Rd.setA, ↓Rd.v0, ↓Rd.v1, ↓Rd.v2, ↓Rd.v3, ↓Rd.v4, ↓Rd.v5, ↓Rd.v6, ↓Rd.v7, ↓Rd.v8, ↓Rd.v9, ↓Rd.v10, ↓Rd.v11, ↓Rd.v12, ↓Rd.v13, ↓Rd.v14, ↓Rd.v15, ↓Rd.v16, ↓Rd.v17, ↓Rd.v18, ↓Rd.v19, ↓Rd.v20, ↓Rd.v21, ↓Rd.v22, ↓Rd.v23, ↓Rd.g0, ↓Rd.g1, ↓Rd.g2, ↓Rd.g3, ↓Rd.g4, ↓Rd.g5, ↓Rd.g6, ↓Rd.g7, ↓Rd.g8, ↓Rd.g9, ↓Rd.g10, ↓Rd.g11, ↓Rd.g12, ↓Rd.g13, ↓Rd.g14, ↓Rd.g15, ↓Rd.g16, ↓Rd.g17, ↓Rd.g18, ↓Rd.g19, ↓Rd.g20, ↓Rd.g21, ↓Rd.g22, ↓Rd.g23, ↓Rd.isB_bl, ↓Rd.seq, ↓Rd.nxt, ↓Rd.brk, ↓Rd.cnt, ↓Rd.drp, ↓Rd.ret, ↓Rd.retN, ↓Rd.ifS, ↓Rd.asg, ↓Rd.cst, ↓Rd.op, ↓Rd.I0, ↓Rd.I1, ↓Rd.eqI, ↓Rd.neI, ↓Rd.eqS, ↓Rd.neS, ↓Rd.eqB, ↓Rd.neB, ↓Rd.un, ↓Rd.U, ↓Rd.tst, ↓Rd.tb, ↓Rd.and, ↓Rd.or, ↓Rd.not, ↓Rd.andV, ↓Rd.orV, ↓Rd.notV, ↓Rd.tif, ↓Rd.tifC, ↓Rd.chn, ↓Rd.nil, ↓Rd.cons, ↓Rd.cb, ↓Rd.call, ↓Rd.lst, ↓Rd.tup, ↓Rd.tabE, ↓Rd.tabI, ↓Rd.tabS, ↓Rd.ixL, ↓Rd.ixT, ↓Rd.slc, ↓Rd.part, ↓Rd.partI, ↓Rd.noPart, ↓Rd.slL, ↓Rd.cat, ↓Rd.frr, ↓Rd.cmp, ↓Rd.itl, ↓Rd.itlR, ↓Rd.itt, ↓Rd.ittR, ↓Rd.rg, ↓Rd.rgI, ↓Rd.lenL, ↓Rd.lenS, ↓Rd.isiII, ↓Rd.isiIB, ↓Rd.isiSS, ↓Rd.isiTT, ↓Rd.isiLL, ↓Rd.sumL, ↓Rd.allL, ↓Rd.intI, ↓Rd.intB, ↓Rd.listOf, ↓Rd.strI, ↓Rd.bm, ↓Rd.app, ↓Rd.inSeq, ↓Rd.eqD, ↓Rd.neD, ↓Rd.sub, ↓Rd.setL, ↓Rd.gtup, ↓Rd.gnil, ↓Rd.gcons, ↓Rd.all, not_true_eq_false, not_false_eq_true, Int.one_mul, CDiv, CPow, CMul, Int.natAbs_one, Rd.nab10, Rd.nab2, Nat.reduceLT, true_or, or_true, Int.reduceLT, Int.reduceLE, true_and, and_true, and_self, Int.reduceToNat, Int.reduceMul, Int.reduceSub, Int.reduceAdd, Int.reduceNeg, Int.reducePow, List.length_cons, List.length_nil, Nat.reduceAdd, Nat.zero_add, sizeLine_eq, Nat.reduceLeDiff, Nat.reducePow, decide_eq_true_eq, Bool.not_eq_eq_eq_not, Bool.not_true, Bool.not_false, decide_eq_false_iff_not, eq_self, ↓reduceIte, reduceCtorEq, Bool.false_eq_true, ↓rd_mixed])
section
variable {P : Program} {w : World} {K : PySem.W.Frag} {mg : Str → Option Value} {base : Heap} {f : Addr} {fd : FuncData}
theorem ok__law_number (F : Fun K "_law_number" "_law_number" s__law_number f fd) (c__law_mixed : Cal P w K mg base "_law_mixed" 1 ["_law_cell", "_law_k"] sp_mixed) : FnOk P w K mg base CX0 2 f fd ["_law_cell", "_law_width"] sp_number := by
  refine F.ok sc__law_number (fun vs H Q E h => by match vs, h with | [.int _, .int _], _ => rfl) (fun cdv A outer s H vs Q E hr h => ?_)
  match vs, h with
  | [.int c, .int w'], ⟨hw, k⟩ =>
    refine ⟨_, (pss_cons (ps_set (i := 2) sc__law_number.nd rfl (by first | exact Or.inl rfl | exact Or.inr rfl) (pe_ix ix_list (pe_lstA (pa_cons pe_int (pa_cons (pe_op op_shl pe_int (pe_op op_sub (pv 1) pe_int)) (pa_cons (pe_op op_shl pe_int (pv 1)) pa_nil)))) (pe_op op_mod (pe_callC c__law_mixed (hr.mono (by decide)) (pa_cons (pv 0) (pa_cons pe_int pa_nil))) pe_int) (fun _ _ => rfl)))
      (pss_cons (ps_set (i := 3) sc__law_number.nd rfl (by first | exact Or.inl rfl | exact Or.inr rfl) (pe_lstA (pa_cons (pe_op op_mod (pv 0) pe_int) (pa_cons (pe_op op_sub (pe_op op_add (pv 2) (pe_op op_mod (pv 0) pe_int)) pe_int) (pa_cons (pe_op op_add (pe_op op_mul (pe_callC c__law_mixed (hr.mono (by decide)) (pa_cons (pv 0) (pa_cons pe_int pa_nil))) pe_int) (pe_callC c__law_mixed (hr.mono (by decide)) (pa_cons (pv 0) (pa_cons pe_int pa_nil)))) (pa_cons (pe_op op_fdiv (pv 0) pe_int) pa_nil))))))
      (pss_one (ps_ret (pe_op op_mod (pe_ix ix_list (pv 3) (pe_op op_mod (pe_callC c__law_mixed (hr.mono (by decide)) (pa_cons (pv 0) (pa_cons pe_int pa_nil))) pe_int) (fun _ _ => rfl)) (pe_op op_shl pe_int (pv 1))))))), ?_⟩
    have hp := pw hw
    rw [st__law_number]
    walk_at "vc3"
    refine ⟨by omega, by omega, fun p H1 n1 r r0 r1 => ?_⟩
    obtain ⟨n, hn⟩ := ints_at (ints_map [0, 2 ^ (w' - 1).toNat, 2 ^ w'.toNat]) (k := r % 3) (by simp; omega) (by simp; omega)
    refine ⟨_, _, SqL.of n1.at', hn, ?_⟩
    walk_at "vc3"
    intro a a0 a1 b b0 b1 p2 H2 n2 d d0 d1
    obtain ⟨m, hm⟩ := ints_at (ints_map [c % 7, n + c % 5 - 2, a * 65537 + b, c / 3]) (k := d % 4) (by simp; omega) (by simp; omega)
    refine ⟨_, _, SqL.of n2.at', hm, by omega, ?_⟩
    walk_at "vc3"
    exact ⟨by omega, k _ _ (Int.emod_nonneg _ (by omega)) (Int.emod_lt_of_pos _ (by omega)) (n1.same.trans n2.same)⟩
end
def words : List Str := ["add", "sub", "and", "or", "xor", "not", "left", "right"]
/-- a new list of whole numbers is given back -/
def retL (H : Hp) (Q : VK) (l : List Int) : Prop := ∀ p H', Same H H' → H p = none → H' p = some (.lst (l.map V.int)) → Q (.ref p) H'
theorem retL.new {H H1 : Hp} {Q : VK} {l : List Int} {xs : List V} (k : retL H Q l) (s : Same H H1) (e : xs = l.map V.int) : ∀ p H2, New H1 p (.lst xs) H2 → Q (.ref p) H2 := fun p H2 n => k p _ (s.trans n.same) (s.free n.nw) (by rw [n.at', e])
def sp_bits : Sp
  | [.int n, .int w], H, Q, _ => 0 ≤ n ∧ 0 ≤ w ∧ w ≤ 32 ∧ retL H Q (bits w.toNat n)
  | _, _, _, _ => False
theorem rd_bits {n w : Int} {H : Hp} {Q : VK} {E : XK} : sp_bits [.int n, .int w] H Q E = (0 ≤ n ∧ 0 ≤ w ∧ w ≤ 32 ∧ retL H Q (bits w.toNat n)) := rfl
def sp_joined (K : PySem.W.Frag) : Sp
  | [.ref p], H, Q, _ => ∃ bs : List Int, SqL K H p (bs.map V.int) ∧ bs.length ≤ 32 ∧ ∀ H', Same H H' → Q (.int (joined bs)) H'
  | _, _, _, _ => False
theorem rd_joined {K : PySem.W.Frag} {p : Addr} {H : Hp} {Q : VK} {E : XK} : sp_joined K [.ref p] H Q E = ∃ bs : List Int, SqL K H p (bs.map V.int) ∧ bs.length ≤ 32 ∧ ∀ H', Same H H' → Q (.int (joined bs)) H' := rfl
def sp_due : Sp
  | [.str x, .int w, .int a, .int b], H, Q, _ => W w ∧ x ∈ words ∧ (0 ≤ a ∧ a < 2 ^ w.toNat) ∧ (0 ≤ b ∧ b < 2 ^ w.toNat) ∧ ∀ H', Same H H' → Q (.int (unf x a b % 2 ^ w.toNat)) H'
  | _, _, _, _ => False
theorem rd_due {x : Str} {w a b : Int} {H : Hp} {Q : VK} {E : XK} : sp_due [.str x, .int w, .int a, .int b] H Q E = (W w ∧ x ∈ words ∧ (0 ≤ a ∧ a < 2 ^ w.toNat) ∧ (0 ≤ b ∧ b < 2 ^ w.toNat) ∧ ∀ H', Same H H' → Q (.int (unf x a b % 2 ^ w.toNat)) H') := rfl
theorem and1 {x : Int} (h : 0 ≤ x) : Builtin.bitAnd x 1 = x % 2 := by
  rw [PyProof.Rows.bitAnd_pp h (by decide)]
  have e : x.toNat &&& 1 = x.toNat % 2 := Nat.and_one_is_mod _
  show ((x.toNat &&& 1 : Nat) : Int) = x % 2
  rw [e]
  omega
theorem bit_at {bs : List Int} {i : Nat} (h : i < bs.length) : atI (bs.map V.int) (0 + (i : Int)) = some (.int (bs.getD i 0)) := by
  rw [Int.zero_add, atI_nat]
  rw [List.getElem?_map, List.getElem?_eq_getElem h, List.getD_eq_getElem?_getD, List.getElem?_eq_getElem h]
  rfl
local macro_rules | `(tactic| walk_at "vc") => `(tactic| try simp only [↓Rd.cxK, ↓Rd.tix, ↓Rd.zp, ↓Rd.zpI, ↓Rd.lz, ↓Rd.lzI, ↓Rd.rse, ↓Rd.meC, ↓Rd.meQ, ↓Rd.mkC, ↓Rd.sfA, ↓Rd.sfQ, ↓Rd.fdE, ↓Rd.fdR, ↓Rd.isiO, ↓Rd.join, ↓Rd.ixS, ↓Rd.addS, ↓Rd.rv, ↓Rd.rvI, ↓Rd.revE, ↓Rd.split, ↓Rd.cxKn, ↓Rd.glst, ↓Rd.lstA, ↓Rd.tupA, ↓Rd.catA, ↓Rd.repA, ↓Rd.slLA, ↓Rd.listA, ↓Rd.appA, ↓Rd.setA, ↓Rd.v0, ↓Rd.v1, ↓Rd.v2, ↓Rd.v3, ↓Rd.v4, ↓Rd.v5, ↓Rd.v6, ↓Rd.v7, ↓Rd.v8, ↓Rd.v9, ↓Rd.v10, ↓Rd.v11, ↓Rd.v12, ↓Rd.v13, ↓Rd.v14, ↓Rd.v15, ↓Rd.v16, ↓Rd.v17, ↓Rd.v18, ↓Rd.v19, ↓Rd.v20, ↓Rd.v21, ↓Rd.v22, ↓Rd.v23, ↓Rd.g0, ↓Rd.g1, ↓Rd.g2, ↓Rd.g3, ↓Rd.g4, ↓Rd.g5, ↓Rd.g6, ↓Rd.g7, ↓Rd.g8, ↓Rd.g9, ↓Rd.g10, ↓Rd.g11, ↓Rd.g12, ↓Rd.g13, ↓Rd.g14, ↓Rd.g15, ↓Rd.g16, ↓Rd.g17, ↓Rd.g18, ↓Rd.g19, ↓Rd.g20, ↓Rd.g21, ↓Rd.g22, ↓Rd.g23, ↓Rd.isB_bl, ↓Rd.seq, ↓Rd.nxt, ↓Rd.brk, ↓Rd.cnt, ↓Rd.drp, ↓Rd.ret, ↓Rd.retN, ↓Rd.ifS, ↓Rd.asg, ↓Rd.cst, ↓Rd.op, ↓Rd.I0, ↓Rd.I1, ↓Rd.eqI, ↓Rd.neI, ↓Rd.eqS, ↓Rd.neS, ↓Rd.eqB, ↓Rd.neB, ↓Rd.un, ↓Rd.U, ↓Rd.tst, ↓Rd.tb, ↓Rd.and, ↓Rd.or, ↓Rd.not, ↓Rd.andV, ↓Rd.orV, ↓Rd.notV, ↓Rd.tif, ↓Rd.tifC, ↓Rd.chn, ↓Rd.nil, ↓Rd.cons, ↓Rd.cb, ↓Rd.call, ↓Rd.lst, ↓Rd.tup, ↓Rd.tabE, ↓Rd.tabI, ↓Rd.tabS, ↓Rd.ixL, ↓Rd.ixT, ↓Rd.slc, ↓Rd.part, ↓Rd.partI, ↓Rd.noPart, ↓Rd.slL, ↓Rd.cat, ↓Rd.frr, ↓Rd.cmp, ↓Rd.itl, ↓Rd.itlR, ↓Rd.itt, ↓Rd.ittR, ↓Rd.rg, ↓Rd.rgI, ↓Rd.lenL, ↓Rd.lenS, ↓Rd.isiII, ↓Rd.isiIB, ↓Rd.isiSS, ↓Rd.isiTT, ↓Rd.isiLL, ↓Rd.sumL, ↓Rd.allL, ↓Rd.intI, ↓Rd.intB, ↓Rd.listOf, ↓Rd.strI, ↓Rd.bm, ↓Rd.app, ↓Rd.inSeq, ↓Rd.eqD, ↓Rd.neD, ↓Rd.sub, ↓Rd.setL, ↓Rd.gtup, ↓Rd.gnil, ↓Rd.gcons, ↓Rd.all, not_true_eq_false, not_false_eq_true, Int.one_mul, CDiv, CPow, CMul, Int.natAbs_one, Rd.nab10, Rd.nab2, Nat.reduceLT, true_or, or_true, Int.reduceLT, Int.reduceLE, true_and, and_true, and_self, Int.reduceToNat, Int.reduceMul, Int.reduceSub, Int.reduceAdd, Int.reduceNeg, Int.reducePow, List.length_cons, List.length_nil, Nat.reduceAdd, Nat.zero_add, sizeLine_eq, Nat.reduceLeDiff, Nat.reducePow, decide_eq_true_eq, Bool.not_eq_eq_eq_not, Bool.not_true, Bool.not_false, decide_eq_false_iff_not, eq_self, ↓reduceIte, reduceCtorEq, Bool.false_eq_true, ↓rd_bits, ↓rd_joined, ↓rd_due, ↓rd_fit, ↓rd_reckoned, ↓rd_cell, ↓rd_mixed, ↓rd_number])
section
variable {P : Program} {w : World} {K : PySem.W.Frag} {mg : Str → Option Value} {base : Heap} {f : Addr} {fd : FuncData}
theorem ok__law_bits (F : Fun K "_law_bits" "_law_bits" s__law_bits f fd) (B : Bls mg) : FnOk P w K mg base CX0 1 f fd ["_law_number_here", "_law_width"] sp_bits := by
  refine F.ok sc__law_bits (fun vs H Q E h => by match vs, h with | [.int _, .int _], _ => rfl) (fun cdv A outer s H vs Q E hr h => ?_)
  match vs, h with
  | [.int n, .int w'], ⟨h0, hw0, hw1, k⟩ =>
    refine ⟨_, (pss_one (ps_ret (pe_comp rfl (BlkOk.ofS (tn := ["_law_k"]) (M := ["_law_number_here", "_law_width"]) (N := ["_law_number_here", "_law_width"]) (sc := defScope s__law_bits) rfl rfl rfl (by decide +kernel)) (pi_range1 rfl B.range (pa_cons (pv 1) pa_nil)) (fun _ _ _ _ => (pg_name (i := 0) (show List.Nodup ((["_law_k"] : List Str) ++ (["_law_number_here", "_law_width"] : List Str)) by decide +kernel) rfl (by first | exact Or.inl rfl | exact Or.inr rfl))) (fun _ _ _ _ => pts_nil) (fun _ _ _ _ => (pe_op op_and (pe_op op_shr (pv 1) (pv 0)) pe_int))))), ?_⟩
    rw [st__law_bits]
    walk_at "vc"
    refine ⟨by omega, by omega, ?_⟩
    refine compR_range (fun j v => v = .int (n / 2 ^ j % 2)) (by show _ ≤ 16777216; omega) (fun i H' q hi s1 kq => ?_) (fun vs p H1 H2 hl hv s1 n1 => ?_)
    · walk_at "vc"
      refine ⟨by omega, kq _ _ (Same.refl _) ?_⟩
      rw [and1 (Int.ediv_nonneg h0 (Int.pow_nonneg (by decide)))]
      congr 4
      omega
    · refine k.new s1 ?_ p H2 n1
      rw [list_of hl hv, bits_eq, List.map_map]
      rfl
theorem ok__law_joined (F : Fun K "_law_joined" "_law_joined" s__law_joined f fd) (B : Bls mg) : FnOk P w K mg base CX0 1 f fd ["_law_bits_here"] (sp_joined K) := by
  refine F.ok sc__law_joined (fun vs H Q E h => by match vs, h with | [.ref _], _ => rfl) (fun cdv A outer s H vs Q E hr h => ?_)
  match vs, h with
  | [.ref p], ⟨bs, hS, hl, k⟩ =>
    refine ⟨_, (pss_one (ps_ret (pe_callB (call_sumR rfl) rfl B.sum bb_sum (pa_cons (pe_comp rfl (BlkOk.ofS (tn := ["_law_k"]) (M := ["_law_bits_here"]) (N := ["_law_bits_here"]) (sc := defScope s__law_joined) rfl rfl rfl (by decide +kernel)) (pi_range1 rfl B.range (pa_cons (pe_callB call_lenR rfl B.len bb_len (pa_cons (pv 0) pa_nil)) pa_nil)) (fun _ _ _ _ => (pg_name (i := 0) (show List.Nodup ((["_law_k"] : List Str) ++ (["_law_bits_here"] : List Str)) by decide +kernel) rfl (by first | exact Or.inl rfl | exact Or.inr rfl))) (fun _ _ _ _ => (pts_one (pt_cmpR op_eq (pe_ix ix_listB (pv 1) (pv 0) (fun _ _ => rfl)) pe_int (nomk _)))) (fun _ _ _ _ => (pe_op op_shl pe_int (pv 0)))) pa_nil)))), ?_⟩
    rw [st__law_joined]
    walk_at "vc"
    refine ⟨_, .inl hS, by simp, by simp; omega, ?_⟩
    have en : (((bs.map V.int).length : Int)).toNat = bs.length := by simp
    rw [en]
    refine compA_range (fun i vs σ' H' => vs = ((List.range i).filter fun k => bs.getD k 0 == 1).map (fun k => V.int ((1 : Int) * 2 ^ k)) ∧ (∃ b, σ' = [b, some (.ref p)]) ∧ Same H H') ⟨rfl, ⟨none, rfl⟩, Same.refl _⟩ (by show _ ≤ 16777216; omega) (fun i vs σ' H' h => ?_) ?_ ?_
    · rw [h.1, List.length_map]
      exact Nat.le_trans (List.length_filter_le _ _) (by simp)
    · rintro i vs σ' H' hi ⟨e, ⟨b, rfl⟩, s⟩
      walk_at "vc"
      refine ⟨_, _, s.seq hS, bit_at hi, ?_⟩
      walk_at "vc"
      refine ite2 (fun h => ?_) (fun h => ?_)
      · walk_at "vc"
        refine ⟨by omega, ?_, ⟨_, rfl⟩, s⟩
        rw [e, List.range_succ, List.filter_append, List.map_append]
        have hb : List.filter (fun k => bs.getD k 0 == 1) [i] = [i] := List.filter_eq_self.mpr (by intro a ha; rw [List.mem_singleton.mp ha, h]; rfl)
        rw [hb, Int.zero_add, Int.toNat_natCast]
        simp
      · refine ⟨?_, ⟨_, rfl⟩, s⟩
        rw [e, List.range_succ, List.filter_append, List.map_append]
        have hb : List.filter (fun k => bs.getD k 0 == 1) [i] = [] := List.filter_eq_nil_iff.mpr (by intro a ha; rw [List.mem_singleton.mp ha]; simpa using h)
        rw [hb]
        simp
    · rintro vs σ' H' ⟨e, _, s⟩ p2 H2 n2
      walk_at "vc"
      refine ⟨((List.range bs.length).filter fun k => bs.getD k 0 == 1).map fun k => (1 : Int) * 2 ^ k, ?_, ?_⟩
      · rw [List.map_map]
        rw [e] at n2
        exact SqL.of n2.at'
      · rw [joined_eq]
        exact k _ (s.trans n2.same)
theorem pick {xs : List Int} {j : Nat} {x : V} (h : (xs.map V.int)[j]? = some x) : j < xs.length ∧ x = .int (xs.getD j 0) := by
  rw [List.getElem?_map] at h
  obtain ⟨n, hn, rfl⟩ := Option.map_eq_some_iff.mp h
  exact ⟨(List.getElem?_eq_some_iff.mp hn).1, by rw [List.getD_eq_getElem?_getD, hn]; rfl⟩
theorem zipped {f : Int → Int → Int} {xs ys : List Int} {vs : List V} (he : xs.length = ys.length) (hl : vs.length = xs.length) (hv : ∀ (j : Nat) (v : V), vs[j]? = some v → v = .int (f (xs.getD j 0) (ys.getD j 0))) : vs = (List.zipWith f xs ys).map V.int := by
  apply List.ext_getElem?
  intro j
  by_cases hj : j < xs.length
  · have e : vs[j]? = some vs[j] := List.getElem?_eq_getElem (by omega)
    rw [e, hv j _ e, List.getElem?_map, List.getElem?_zipWith, List.getElem?_eq_getElem hj, List.getElem?_eq_getElem (show j < ys.length by omega), List.getD_eq_getElem?_getD, List.getD_eq_getElem?_getD, List.getElem?_eq_getElem hj, List.getElem?_eq_getElem (show j < ys.length by omega)]
    rfl
  · rw [List.getElem?_eq_none (by omega), List.getElem?_eq_none (by simp; omega)]
theorem due_and {w a b : Int} (ha : 0 ≤ a ∧ a < 2 ^ w.toNat) (hb : 0 ≤ b ∧ b < 2 ^ w.toNat) : joined (List.zipWith fAnd (bits w.toNat a) (bits w.toNat b)) = unf "and" a b % 2 ^ w.toNat := by
  rw [joined_zip, both_andI _ _ _ ha.1 ha.2 hb.1 hb.2]
  show _ = Builtin.bitAnd a b % _
  rw [PyProof.Rows.bitAnd_pp ha.1 hb.1, Int.emod_eq_of_lt (by omega)]
  have := Nat.and_le_left (n := a.toNat) (m := b.toNat)
  omega
theorem bitOr_pp {x y : Int} (hx : 0 ≤ x) (hy : 0 ≤ y) : Builtin.bitOr x y = ((x.toNat ||| y.toNat : Nat) : Int) := by
  have h1 : decide (0 ≤ Builtin.bitNot x) = false := by simp [Builtin.bitNot]; omega
  have h2 : decide (0 ≤ Builtin.bitNot y) = false := by simp [Builtin.bitNot]; omega
  have nn : ∀ z : Int, Builtin.bitNot (Builtin.bitNot z) = z := fun z => by simp only [Builtin.bitNot]; omega
  unfold Builtin.bitOr Builtin.bitAnd
  rw [h1, h2]
  simp only [nn]
theorem due_or {w a b : Int} (ha : 0 ≤ a ∧ a < 2 ^ w.toNat) (hb : 0 ≤ b ∧ b < 2 ^ w.toNat) : joined (List.zipWith fOr (bits w.toNat a) (bits w.toNat b)) = unf "or" a b % 2 ^ w.toNat := by
  have bd := both_bound fOr w.toNat a b
  have e := both_orI _ _ _ ha.1 ha.2 hb.1 hb.2
  rw [joined_zip]
  show _ = Builtin.bitOr a b % _
  rw [show Builtin.bitOr a b = both fOr w.toNat a b by rw [e]; exact bitOr_pp ha.1 hb.1, Int.emod_eq_of_lt bd.1 bd.2]
theorem due_xor {w a b : Int} (ha : 0 ≤ a ∧ a < 2 ^ w.toNat) (hb : 0 ≤ b ∧ b < 2 ^ w.toNat) : joined (List.zipWith fXor (bits w.toNat a) (bits w.toNat b)) = unf "xor" a b % 2 ^ w.toNat := by
  have bd := both_bound fXor w.toNat a b
  rw [joined_zip]
  show _ = Builtin.bitXor a b % _
  rw [show Builtin.bitXor a b = both fXor w.toNat a b by rw [both_sub, both_orI _ _ _ ha.1 ha.2 hb.1 hb.2, both_andI _ _ _ ha.1 ha.2 hb.1 hb.2, ← bitOr_pp ha.1 hb.1, ← PyProof.Rows.bitAnd_pp ha.1 hb.1]; rfl, Int.emod_eq_of_lt bd.1 bd.2]
theorem due_not {w a b : Int} (ha : 0 ≤ a ∧ a < 2 ^ w.toNat) : joined (List.zipWith fNot (bits w.toNat a) (bits w.toNat b)) = unf "not" a b % 2 ^ w.toNat := by
  rw [joined_zip, both_not _ _ _ ha.1 ha.2]
  show _ = (-1 - a) % _
  rw [← Int.add_emod_left, Int.emod_eq_of_lt (by omega) (by omega)]
  omega
theorem ok__law_due (F : Fun K "_law_due" "_law_due" s__law_due f fd) (B : Bls mg) (c__law_bits : Cal P w K mg base "_law_bits" 1 ["_law_number_here", "_law_width"] sp_bits)
    (c__law_joined : Cal P w K mg base "_law_joined" 1 ["_law_bits_here"] (sp_joined K)) : FnOk P w K mg base CX0 2 f fd ["_law_word", "_law_width", "_law_one", "_law_other"] sp_due := by
  refine F.ok sc__law_due (fun vs H Q E h => by match vs, h with | [.str _, .int _, .int _, .int _], _ => rfl) (fun cdv A outer s H vs Q E hr h => ?_)
  match vs, h with
  | [.str x, .int w', .int a, .int b], ⟨hw, hx, ha, hb, k⟩ =>
    refine ⟨_, (pss_cons (ps_set (i := 4) sc__law_due.nd rfl (by first | exact Or.inl rfl | exact Or.inr rfl) (pe_listzip rfl rfl B.list B.zip rfl (pa_cons (pe_callC c__law_bits (hr.mono (by decide)) (pa_cons (pv 2) (pa_cons (pv 1) pa_nil))) (pa_cons (pe_callC c__law_bits (hr.mono (by decide)) (pa_cons (pv 3) (pa_cons (pv 1) pa_nil))) pa_nil))))
      (pss_cons (ps_if (pt_cmpR op_eq (pv 0) pe_str (nomk _)) (pss_one (ps_ret (pe_callC c__law_joined (hr.mono (by decide)) (pa_cons (pe_comp rfl (BlkOk.ofS (tn := ["_law_a", "_law_b"]) (M := ["_law_word", "_law_width", "_law_one", "_law_other", "_law_pairs"]) (N := ["_law_word", "_law_width", "_law_one", "_law_other", "_law_pairs"]) (sc := defScope s__law_due) rfl rfl rfl (by decide +kernel)) (pi_list (pv 4)) (fun _ _ _ _ => (pg_tupB (n := 2) rfl (pgs_cons (pg_name (i := 0) (show List.Nodup ((["_law_a", "_law_b"] : List Str) ++ (["_law_word", "_law_width", "_law_one", "_law_other", "_law_pairs"] : List Str)) by decide +kernel) rfl (by first | exact Or.inl rfl | exact Or.inr rfl)) (pgs_cons (pg_name (i := 1) (show List.Nodup ((["_law_a", "_law_b"] : List Str) ++ (["_law_word", "_law_width", "_law_one", "_law_other", "_law_pairs"] : List Str)) by decide +kernel) rfl (by first | exact Or.inl rfl | exact Or.inr rfl)) pgs_nil)))) (fun _ _ _ _ => pts_nil) (fun _ _ _ _ => (pe_callTy call_int1R rfl B.int bb_int (pa_cons (pe_cmpR op_eq (pe_op op_add (pv 0) (pv 1)) pe_int (nomk _)) pa_nil)))) pa_nil)))) pss_nil)
      (pss_cons (ps_if (pt_cmpR op_eq (pv 0) pe_str (nomk _)) (pss_one (ps_ret (pe_callC c__law_joined (hr.mono (by decide)) (pa_cons (pe_comp rfl (BlkOk.ofS (tn := ["_law_a", "_law_b"]) (M := ["_law_word", "_law_width", "_law_one", "_law_other", "_law_pairs"]) (N := ["_law_word", "_law_width", "_law_one", "_law_other", "_law_pairs"]) (sc := defScope s__law_due) rfl rfl rfl (by decide +kernel)) (pi_list (pv 4)) (fun _ _ _ _ => (pg_tupB (n := 2) rfl (pgs_cons (pg_name (i := 0) (show List.Nodup ((["_law_a", "_law_b"] : List Str) ++ (["_law_word", "_law_width", "_law_one", "_law_other", "_law_pairs"] : List Str)) by decide +kernel) rfl (by first | exact Or.inl rfl | exact Or.inr rfl)) (pgs_cons (pg_name (i := 1) (show List.Nodup ((["_law_a", "_law_b"] : List Str) ++ (["_law_word", "_law_width", "_law_one", "_law_other", "_law_pairs"] : List Str)) by decide +kernel) rfl (by first | exact Or.inl rfl | exact Or.inr rfl)) pgs_nil)))) (fun _ _ _ _ => pts_nil) (fun _ _ _ _ => (pe_callTy call_int1R rfl B.int bb_int (pa_cons (pe_cmpR op_gt (pe_op op_add (pv 0) (pv 1)) pe_int (nomk _)) pa_nil)))) pa_nil)))) pss_nil)
      (pss_cons (ps_if (pt_cmpR op_eq (pv 0) pe_str (nomk _)) (pss_one (ps_ret (pe_callC c__law_joined (hr.mono (by decide)) (pa_cons (pe_comp rfl (BlkOk.ofS (tn := ["_law_a", "_law_b"]) (M := ["_law_word", "_law_width", "_law_one", "_law_other", "_law_pairs"]) (N := ["_law_word", "_law_width", "_law_one", "_law_other", "_law_pairs"]) (sc := defScope s__law_due) rfl rfl rfl (by decide +kernel)) (pi_list (pv 4)) (fun _ _ _ _ => (pg_tupB (n := 2) rfl (pgs_cons (pg_name (i := 0) (show List.Nodup ((["_law_a", "_law_b"] : List Str) ++ (["_law_word", "_law_width", "_law_one", "_law_other", "_law_pairs"] : List Str)) by decide +kernel) rfl (by first | exact Or.inl rfl | exact Or.inr rfl)) (pgs_cons (pg_name (i := 1) (show List.Nodup ((["_law_a", "_law_b"] : List Str) ++ (["_law_word", "_law_width", "_law_one", "_law_other", "_law_pairs"] : List Str)) by decide +kernel) rfl (by first | exact Or.inl rfl | exact Or.inr rfl)) pgs_nil)))) (fun _ _ _ _ => pts_nil) (fun _ _ _ _ => (pe_callTy call_int1R rfl B.int bb_int (pa_cons (pe_cmpR op_ne (pv 0) (pv 1) (nomk _)) pa_nil)))) pa_nil)))) pss_nil)
      (pss_cons (ps_if (pt_cmpR op_eq (pv 0) pe_str (nomk _)) (pss_one (ps_ret (pe_callC c__law_joined (hr.mono (by decide)) (pa_cons (pe_comp rfl (BlkOk.ofS (tn := ["_law_a", "_law_b"]) (M := ["_law_word", "_law_width", "_law_one", "_law_other", "_law_pairs"]) (N := ["_law_word", "_law_width", "_law_one", "_law_other", "_law_pairs"]) (sc := defScope s__law_due) rfl rfl rfl (by decide +kernel)) (pi_list (pv 4)) (fun _ _ _ _ => (pg_tupB (n := 2) rfl (pgs_cons (pg_name (i := 0) (show List.Nodup ((["_law_a", "_law_b"] : List Str) ++ (["_law_word", "_law_width", "_law_one", "_law_other", "_law_pairs"] : List Str)) by decide +kernel) rfl (by first | exact Or.inl rfl | exact Or.inr rfl)) (pgs_cons (pg_name (i := 1) (show List.Nodup ((["_law_a", "_law_b"] : List Str) ++ (["_law_word", "_law_width", "_law_one", "_law_other", "_law_pairs"] : List Str)) by decide +kernel) rfl (by first | exact Or.inl rfl | exact Or.inr rfl)) pgs_nil)))) (fun _ _ _ _ => pts_nil) (fun _ _ _ _ => (pe_op op_sub pe_int (pv 0)))) pa_nil)))) pss_nil)
      (pss_cons (ps_if (pt_cmpR op_eq (pv 0) pe_str (nomk _)) (pss_one (ps_ret (pe_op op_mod (pe_op op_add (pv 2) (pv 2)) (pe_op op_shl pe_int (pv 1))))) pss_nil)
      (pss_cons (ps_if (pt_cmpR op_eq (pv 0) pe_str (nomk _)) (pss_one (ps_ret (pe_op op_fdiv (pv 2) pe_int))) pss_nil)
      (pss_cons (ps_if (pt_cmpR op_eq (pv 0) pe_str (nomk _)) (pss_one (ps_ret (pe_op op_mod (pe_op op_add (pv 2) (pv 3)) (pe_op op_shl pe_int (pv 1))))) pss_nil)
      (pss_one (ps_ret (pe_op op_mod (pe_op op_sub (pv 2) (pv 3)) (pe_op op_shl pe_int (pv 1))))))))))))), ?_⟩
    have hp := pw hw
    rw [st__law_due]
    walk_at "vc"
    refine ⟨ha.1, by omega, by omega, fun p1 H1 s1 f1 e1 => ?_⟩
    walk_at "vc"
    refine ⟨hb.1, by omega, by omega, fun p2 H2 s2 f2 e2 => ?_⟩
    walk_at "vc"
    refine ⟨.lst, .lst, _, _, SqL.of (s2 _ _ e1), SqL.of e2, by simp [bits_length], fun p3 ts H3 s3 f3 e3 l3 g3 => ?_⟩
    walk_at "vc"
    have la : (bits w'.toNat a).length = w'.toNat := bits_length _ _
    have lb : (bits w'.toNat b).length = w'.toNat := bits_length _ _
    rw [List.length_map, la] at l3
    have s13 : Same H H3 := by walk_at "sq"
    have pairs : ∀ {te : TE} {Q' : VK} {σ : St} (f : Int → Int → Int), (∀ (x y : Int) (H' : Hp) (q : VK), (∀ v H4, Same H' H4 → v = .int (f x y) → q v H4) → te (some (.int x) :: some (.int y) :: σ) H' q) →
        (∀ p H4, Same H H4 → H4 p = some (.lst ((List.zipWith f (bits w'.toNat a) (bits w'.toNat b)).map V.int)) → Q' (.ref p) H4) → Rd.CompP 2 (gTup K 2 (gCons (gName 0) (gCons (gName 1) gNil))) tAll te σ Q' (Itl K p3) H3 := by
      intro te Q' σ f ht hd
      refine compR_pairs ts _ _ (fun j v => v = .int (f ((bits w'.toNat a).getD j 0) ((bits w'.toNat b).getD j 0))) (SqL.of e3) (by rw [l3]; show _ ≤ 16777216; omega) g3 (fun i x y H' q hx hy s4 kq => ?_) (fun vs p H4 H5 hl hv s4 n5 => ?_)
      · obtain ⟨_, rfl⟩ := pick hx
        obtain ⟨_, rfl⟩ := pick hy
        exact ht _ _ _ _ kq
      · rw [zipped (f := f) (by rw [la, lb]) (by rw [hl, l3, la]) hv] at n5
        exact hd p H5 ((s13.trans s4).trans n5.same) n5.at'
    have bound : ∀ f : Int → Int → Int, (List.zipWith f (bits w'.toNat a) (bits w'.toNat b)).length ≤ 32 := fun f => by
      rw [List.length_zipWith, la, lb]
      omega
    refine ite2 (fun h => ?_) (fun h1 => ?_)
    · subst h
      refine ⟨⟨_, SqL.of e3⟩, pairs fAnd (fun x y H' q kq => ?_) fun p H4 s4 e4 => ?_⟩
      · walk_at "vc"
        exact kq _ _ (Same.refl _) rfl
      · walk_at "vc"
        exact ⟨_, SqL.of e4, bound _, fun H5 s5 => by rw [due_and ha hb]; exact k _ (s4.trans s5)⟩
    refine ite2 (fun h => ?_) (fun h2 => ?_)
    · subst h
      refine ⟨⟨_, SqL.of e3⟩, pairs fOr (fun x y H' q kq => ?_) fun p H4 s4 e4 => ?_⟩
      · walk_at "vc"
        exact kq _ _ (Same.refl _) rfl
      · walk_at "vc"
        exact ⟨_, SqL.of e4, bound _, fun H5 s5 => by rw [due_or ha hb]; exact k _ (s4.trans s5)⟩
    refine ite2 (fun h => ?_) (fun h3 => ?_)
    · subst h
      refine ⟨⟨_, SqL.of e3⟩, pairs fXor (fun x y H' q kq => ?_) fun p H4 s4 e4 => ?_⟩
      · walk_at "vc"
        exact kq _ _ (Same.refl _) rfl
      · walk_at "vc"
        exact ⟨_, SqL.of e4, bound _, fun H5 s5 => by rw [due_xor ha hb]; exact k _ (s4.trans s5)⟩
    refine ite2 (fun h => ?_) (fun h4 => ?_)
    · subst h
      refine ⟨⟨_, SqL.of e3⟩, pairs fNot (fun x y H' q kq => ?_) fun p H4 s4 e4 => ?_⟩
      · walk_at "vc"
        exact kq _ _ (Same.refl _) rfl
      · walk_at "vc"
        exact ⟨_, SqL.of e4, bound _, fun H5 s5 => by rw [due_not ha]; exact k _ (s4.trans s5)⟩
    refine ite2 (fun h => ?_) (fun h5 => ?_)
    · subst h
      walk_at "vc"
      exact ⟨by omega, by omega, k _ s13⟩
    refine ite2 (fun h => ?_) (fun h6 => ?_)
    · subst h
      walk_at "vc"
      refine qi (k _ s13) ?_
      show a / 2 = a / 2 % _
      rw [Int.emod_eq_of_lt (by omega) (by omega)]
    refine ite2 (fun h => ?_) (fun h7 => ?_)
    · subst h
      walk_at "vc"
      exact ⟨by omega, by omega, k _ s13⟩
    · have hx : x = "sub" := by
        simp only [words, List.mem_cons, List.mem_nil_iff, or_false] at hx
        rcases hx with h | h | h | h | h | h | h | h
        · exact absurd h h7
        · exact h
        · exact absurd h h1
        · exact absurd h h2
        · exact absurd h h3
        · exact absurd h h4
        · exact absurd h h5
        · exact absurd h h6
      subst hx
      walk_at "vc"
      exact ⟨by omega, by omega, k _ s13⟩
end
def spLaw (K : PySem.W.Frag) : Sp := fun vs H Q _ => ∃ (a : Addr) (ns : List Int), vs = [.ref a] ∧ SqL K H a (ns.map V.int) ∧ ns.length ≤ 63 ∧ ∀ H', Q (.bl true) H'
theorem unf_one {x : Str} {a b : Int} (h : inV (.str x) [.str "not", .str "left", .str "right"] = true) : unf x a 0 = unf x a b := by
  have h : x = "not" ∨ x = "left" ∨ x = "right" := by
    simp only [inV, List.any_cons, List.any_nil, Bool.or_false, Bool.or_eq_true] at h
    rcases h with h | h | h
    · exact .inl (of_decide_eq_true h).symm
    · exact .inr (.inl (of_decide_eq_true h).symm)
    · exact .inr (.inr (of_decide_eq_true h).symm)
  rcases h with rfl | rfl | rfl <;> rfl
local macro_rules | `(tactic| walk_at "vc") => `(tactic| try simp only [↓Rd.cxK, ↓Rd.tix, ↓Rd.zp, ↓Rd.zpI, ↓Rd.lz, ↓Rd.lzI, ↓Rd.rse, ↓Rd.meC, ↓Rd.meQ, ↓Rd.mkC, ↓Rd.sfA, ↓Rd.sfQ, ↓Rd.fdE, ↓Rd.fdR, ↓Rd.isiO, ↓Rd.join, ↓Rd.ixS, ↓Rd.addS, ↓Rd.rv, ↓Rd.rvI, ↓Rd.revE, ↓Rd.split, ↓Rd.cxKn, ↓Rd.glst, ↓Rd.lstA, ↓Rd.tupA, ↓Rd.catA, ↓Rd.repA, ↓Rd.slLA, ↓Rd.listA, ↓Rd.appA, ↓Rd.setA, ↓Rd.v0, ↓Rd.v1, ↓Rd.v2, ↓Rd.v3, ↓Rd.v4, ↓Rd.v5, ↓Rd.v6, ↓Rd.v7, ↓Rd.v8, ↓Rd.v9, ↓Rd.v10, ↓Rd.v11, ↓Rd.v12, ↓Rd.v13, ↓Rd.v14, ↓Rd.v15, ↓Rd.v16, ↓Rd.v17, ↓Rd.v18, ↓Rd.v19, ↓Rd.v20, ↓Rd.v21, ↓Rd.v22, ↓Rd.v23, ↓Rd.g0, ↓Rd.g1, ↓Rd.g2, ↓Rd.g3, ↓Rd.g4, ↓Rd.g5, ↓Rd.g6, ↓Rd.g7, ↓Rd.g8, ↓Rd.g9, ↓Rd.g10, ↓Rd.g11, ↓Rd.g12, ↓Rd.g13, ↓Rd.g14, ↓Rd.g15, ↓Rd.g16, ↓Rd.g17, ↓Rd.g18, ↓Rd.g19, ↓Rd.g20, ↓Rd.g21, ↓Rd.g22, ↓Rd.g23, ↓Rd.isB_bl, ↓Rd.seq, ↓Rd.nxt, ↓Rd.brk, ↓Rd.cnt, ↓Rd.drp, ↓Rd.ret, ↓Rd.retN, ↓Rd.ifS, ↓Rd.asg, ↓Rd.cst, ↓Rd.op, ↓Rd.I0, ↓Rd.I1, ↓Rd.eqI, ↓Rd.neI, ↓Rd.eqS, ↓Rd.neS, ↓Rd.eqB, ↓Rd.neB, ↓Rd.un, ↓Rd.U, ↓Rd.tst, ↓Rd.tb, ↓Rd.and, ↓Rd.or, ↓Rd.not, ↓Rd.andV, ↓Rd.orV, ↓Rd.notV, ↓Rd.tif, ↓Rd.tifC, ↓Rd.chn, ↓Rd.nil, ↓Rd.cons, ↓Rd.cb, ↓Rd.call, ↓Rd.lst, ↓Rd.tup, ↓Rd.tabE, ↓Rd.tabI, ↓Rd.tabS, ↓Rd.ixL, ↓Rd.ixT, ↓Rd.slc, ↓Rd.part, ↓Rd.partI, ↓Rd.noPart, ↓Rd.slL, ↓Rd.cat, ↓Rd.frr, ↓Rd.cmp, ↓Rd.itl, ↓Rd.itlR, ↓Rd.itt, ↓Rd.ittR, ↓Rd.rg, ↓Rd.rgI, ↓Rd.lenL, ↓Rd.lenS, ↓Rd.isiII, ↓Rd.isiIB, ↓Rd.isiSS, ↓Rd.isiTT, ↓Rd.isiLL, ↓Rd.sumL, ↓Rd.allL, ↓Rd.intI, ↓Rd.intB, ↓Rd.listOf, ↓Rd.strI, ↓Rd.bm, ↓Rd.app, ↓Rd.inSeq, ↓Rd.eqD, ↓Rd.neD, ↓Rd.sub, ↓Rd.setL, ↓Rd.gtup, ↓Rd.gnil, ↓Rd.gcons, ↓Rd.all, not_true_eq_false, not_false_eq_true, Int.one_mul, CDiv, CPow, CMul, Int.natAbs_one, Rd.nab10, Rd.nab2, Nat.reduceLT, true_or, or_true, Int.reduceLT, Int.reduceLE, true_and, and_true, and_self, Int.reduceToNat, Int.reduceMul, Int.reduceSub, Int.reduceAdd, Int.reduceNeg, Int.reducePow, List.length_cons, List.length_nil, Nat.reduceAdd, Nat.zero_add, sizeLine_eq, Nat.reduceLeDiff, Nat.reducePow, decide_eq_true_eq, Bool.not_eq_eq_eq_not, Bool.not_true, Bool.not_false, decide_eq_false_iff_not, eq_self, ↓reduceIte, reduceCtorEq, Bool.false_eq_true, ↓rd_due, ↓rd_reckoned, ↓rd_cell, ↓rd_number])
section
variable {P : Program} {w : World} {K : PySem.W.Frag} {mg : Str → Option Value} {base : Heap} {f : Addr} {fd : FuncData}
theorem ok_law (F : Fun K "law" "law" s_law f fd) (B : Bls mg) (c_reckoned : Cal P w K mg base "reckoned" 3 ["width", "word", "one", "other"] sp_reckoned)
    (c__law_cell_at : Cal P w K mg base "_law_cell_at" 1 ["_law_script", "_law_k"] (sp_cell K)) (c__law_number : Cal P w K mg base "_law_number" 2 ["_law_cell", "_law_width"] sp_number)
    (c__law_due : Cal P w K mg base "_law_due" 2 ["_law_word", "_law_width", "_law_one", "_law_other"] sp_due) : FnOk P w K mg base CX0 4 f fd ["_law_script"] (spLaw K) := by
  refine F.ok sc_law (fun vs H Q E h => by obtain ⟨_, _, rfl, _⟩ := h; rfl) (fun cdv A outer s H vs Q E hr h => ?_)
  obtain ⟨a, ns, rfl, hS, hlen, k⟩ := h
  have hU := hr.units
  refine ⟨_, (pss_cons (ps_set (i := 1) sc_law.nd rfl (by first | exact Or.inl rfl | exact Or.inr rfl) (pe_ix ix_list (pe_lstA (pa_cons pe_int (pa_cons pe_int (pa_cons pe_int pa_nil)))) (pe_op op_mod (pe_callC c__law_cell_at (hr.mono (by decide)) (pa_cons (pv 0) (pa_cons pe_int pa_nil))) pe_int) (fun _ _ => rfl)))
      (pss_cons (ps_set (i := 2) sc_law.nd rfl (by first | exact Or.inl rfl | exact Or.inr rfl) (pe_op op_catA (pe_lstA (pa_cons pe_int (pa_cons pe_int pa_nil))) (pe_slice sl_listA (pv 0) (po_some pe_int) (po_some pe_int))))
      (pss_cons (ps_for PassesOwn.never rfl (pi_range1 rfl B.range (pa_cons (pe_callB call_lenR rfl B.len bb_len (pa_cons (pv 2) pa_nil)) pa_nil)) (pg_name (i := 3) sc_law.nd rfl (by first | exact Or.inl rfl | exact Or.inr rfl)) (pss_cons (ps_set (i := 4) sc_law.nd rfl (by first | exact Or.inl rfl | exact Or.inr rfl) (pe_callC c__law_number (hr.mono (by decide)) (pa_cons (pe_ix ix_list (pv 2) (pv 3) (fun _ _ => rfl)) (pa_cons (pv 1) pa_nil))))
      (pss_cons (ps_set (i := 5) sc_law.nd rfl (by first | exact Or.inl rfl | exact Or.inr rfl) (pe_callC c__law_number (hr.mono (by decide)) (pa_cons (pe_op op_fdiv (pe_ix ix_list (pv 2) (pe_op op_sub (pv 3) pe_int) (fun _ _ => rfl)) pe_int) (pa_cons (pv 1) pa_nil))))
      (pss_one (ps_for PassesOwn.never rfl (pi_list (pe_lstA (pa_cons pe_str (pa_cons pe_str (pa_cons pe_str (pa_cons pe_str (pa_cons pe_str (pa_cons pe_str (pa_cons pe_str (pa_cons pe_str pa_nil)))))))))) (pg_name (i := 6) sc_law.nd rfl (by first | exact Or.inl rfl | exact Or.inr rfl)) (pss_cons (ps_set (i := 7) sc_law.nd rfl (by first | exact Or.inl rfl | exact Or.inr rfl) (pe_callC c_reckoned (hr.mono (by decide)) (pa_cons (pv 1) (pa_cons (pv 6) (pa_cons (pv 4) (pa_cons (pv 5) pa_nil))))))
      (pss_cons (ps_if (PW.pt (pw_or (pt_not (pt_val (pe_callB call_isi rfl B.isinstance bb_isinstance (pa_cons (pv 7) (pa_cons (pe_bltn (v := .ty "int") rfl B.int bb_int rfl) pa_nil))))) (pw_or (pt_val (pe_callB call_isi rfl B.isinstance bb_isinstance (pa_cons (pv 7) (pa_cons (pe_bltn (v := .ty "bool") rfl B.bool bb_bool rfl) pa_nil)))) (pw_or1 (pt_cmpR op_ne (pv 7) (pe_callC c__law_due (hr.mono (by decide)) (pa_cons (pv 6) (pa_cons (pv 1) (pa_cons (pv 4) (pa_cons (pv 5) pa_nil))))) (nomk _)))))) (pss_one (ps_ret pe_bl)) pss_nil)
      (pss_one (ps_if (PW.pt (pw_and (pt_cmpR op_in_seq (pv 6) (pe_lstA (pa_cons pe_str (pa_cons pe_str (pa_cons pe_str pa_nil)))) (nomk _)) (pw_and1 (pt_cmpR op_ne (pe_callC c_reckoned (hr.mono (by decide)) (pa_cons (pv 1) (pa_cons (pv 6) (pa_cons (pv 4) (pa_cons pe_int pa_nil))))) (pv 7) (nomk _))))) (pss_one (ps_ret pe_bl)) pss_nil)))))))))
      (pss_one (ps_ret pe_bl))))), ?_⟩
  rw [st_law]
  walk_at "vc"
  intro p1 H1 n1
  refine ⟨ns, n1.same.seq hS, fun r => ?_⟩
  obtain ⟨wd, hw, hat⟩ := pick3 r
  refine ⟨_, _, SqL.of n1.at', hat, fun p3 H3 n3 => ?_⟩
  have hp := pw hw
  have s3 : Same H H3 := n1.same.trans n3.same
  refine ⟨_, s3.seq hS, fun p4 H4 n4 => ⟨_, _, n4.same _ _ n3.at', n4.at', ?_, fun p5 H5 n5 => ?_⟩⟩
  · have := cutV_length (ns.map V.int) (some 1) (some 25)
    simp at this ⊢
    omega
  obtain ⟨xs, ex⟩ : ∃ xs, xs = [V.int 0, V.int 255] ++ cutV (ns.map V.int) (some 1) (some 25) := ⟨_, rfl⟩
  have ix : Ints xs := by rw [ex]; exact ints_app (ints_map [0, 255]) (ints_cut (ints_map ns) _ _)
  have lx : 2 ≤ xs.length ∧ xs.length ≤ 66 := by
    have := cutV_length (ns.map V.int) (some 1) (some 25)
    rw [ex]
    simp at this ⊢
    omega
  have e5 : H5 p5 = some (.lst xs) := by rw [ex]; exact n5.at'
  refine ⟨xs, .inl (SqL.of e5), by omega, by omega, ?_⟩
  refine for_range (fun i σ H' => ∃ v3 v4 v5 v6 v7, σ = [some (.ref a), some (.int wd), some (.ref p5), v3, v4, v5, v6, v7] ∧ Same H5 H')
    ⟨none, none, none, none, none, rfl, Same.refl _⟩ ?_ ?_
  · rintro i σ H6 hi ⟨v3, v4, v5, v6, v7, rfl, s6⟩
    walk_at "vc"
    have q6 : SqL K H6 p5 xs := s6.seq (SqL.of e5)
    obtain ⟨c0, h0⟩ := ints_at ix (k := 0 + (i : Int)) (by omega) (by omega)
    obtain ⟨c1, h1⟩ := ints_at ix (k := 0 + (i : Int) - 1) (by omega) (by omega)
    refine ⟨_, _, q6, h0, ?_⟩
    walk_at "vc"
    refine ⟨hw, fun a0 H7 a1 a2 s7 => ⟨_, _, s7.seq q6, h1, ?_⟩⟩
    walk_at "vc"
    refine ⟨hw, fun b0 H8 b1 b2 s8 p9 H9 n9 => ⟨⟨_, SqL.of n9.at'⟩, ?_⟩⟩
    have s9 : Same H5 H9 := by walk_at "sq"
    refine for_list (K := K) (a := p9) (xs := words.map V.str) (fun j σ H' => ∃ v6 v7, σ = [some (.ref a), some (.int wd), some (.ref p5), some (.int (0 + (i : Int))), some (.int a0), some (.int b0), v6, v7] ∧ Same H9 H')
      ⟨_, _, rfl, Same.refl _⟩ (fun j σ H' _ ⟨_, _, _, z⟩ => z.seq (SqL.of n9.at')) ?_ ?_
    · rintro j x σ H10 hx ⟨v6, v7, rfl, s10⟩
      obtain ⟨kd, hk, rfl⟩ := List.mem_map.mp (List.mem_of_getElem? hx)
      walk_at "vc"
      refine ⟨hw, ?_⟩
      walk_at "vc"
      refine ⟨hw, hk, ⟨a1, a2⟩, ⟨b1, b2⟩, fun H11 s11 => ?_⟩
      walk_at "vc"
      intro p12 H12 n12
      refine ⟨_, .inl (SqL.of n12.at'), rfl, rfl, ?_⟩
      have fin : Same H9 H12 := by walk_at "sq"
      refine ite2 (fun h => ⟨hw, ?_⟩) (fun h => ⟨_, _, rfl, fin⟩)
      rw [unf_one (b := b0) h]
      exact iteN (by simp) ⟨_, _, rfl, fin⟩
    · rintro σ H10 ⟨v6, v7, rfl, s10⟩
      exact ⟨_, _, _, _, _, rfl, s9.trans s10⟩
  · rintro σ H6 ⟨v3, v4, v5, v6, v7, rfl, s6⟩
    walk_at "vc"
    exact k _
end
theorem all_mk {l : PySem.W.OpenLaw} {w : World} {K : PySem.W.Frag} {h : Heap} {mg : Str → Option Value} {fa f0 f1 f2 f3 f4 f5 f6 f7 f8 f9 f10 d_SPANS : Addr} (X : K.In h) (G : h.Ns mainGlobals mg) (hfa : mg "law" = some (.ref fa))
    {od0 od1 od2 od3 od4 od5 od6 od7 od8 od9 od10 an0 an1 an2 an3 an4 an5 an6 an7 an8 an9 an10 : Option Addr} {sl0 sl1 sl2 sl3 sl4 sl5 sl6 sl7 sl8 sl9 sl10 : Array (Option Value)} {oc0 oc1 oc2 oc3 oc4 oc5 oc6 oc7 oc8 oc9 oc10 kV0 kV1 kV2 kV3 kV4 kV5 kV6 kV7 kV8 kV9 kV10 dc0 dc1 dc2 dc3 dc4 dc5 dc6 dc7 dc8 dc9 dc10 pm0 pm1 pm2 pm3 pm4 pm5 pm6 pm7 pm8 pm9 pm10 cd0 cd1 cd2 cd3 cd4 cd5 cd6 cd7 cd8 cd9 cd10 ct0 ct1 ct2 ct3 ct4 ct5 ct6 ct7 ct8 ct9 ct10 : Value}
    {es_SPANS : Array DictEntry} {n_SPANS : Nat}
    (a0 : PySem.W.nsIn K mainGlobals "fit" = some (some (.ref f0))) (l0 : K.lookup f0 = some ⟨oc0, od0, .func (PySem.W.fnOf "fit" "fit" (defArgs s_fit) (defBody s_fit) (defScope s_fit) .none kV0 dc0 pm0 an0 cd0 ct0), sl0⟩) (c0 : PySem.W.codeIn K cd0 "fit" = true) (k0 : PySem.W.keepIn K (.ref f0) = true)
    (a1 : PySem.W.nsIn K mainGlobals "unfitted_of_two" = some (some (.ref f1))) (l1 : K.lookup f1 = some ⟨oc1, od1, .func (PySem.W.fnOf "unfitted_of_two" "unfitted_of_two" (defArgs s_unfitted_of_two) (defBody s_unfitted_of_two) (defScope s_unfitted_of_two) .none kV1 dc1 pm1 an1 cd1 ct1), sl1⟩) (c1 : PySem.W.codeIn K cd1 "unfitted_of_two" = true) (k1 : PySem.W.keepIn K (.ref f1) = true)
    (a2 : PySem.W.nsIn K mainGlobals "unfitted" = some (some (.ref f2))) (l2 : K.lookup f2 = some ⟨oc2, od2, .func (PySem.W.fnOf "unfitted" "unfitted" (defArgs s_unfitted) (defBody s_unfitted) (defScope s_unfitted) .none kV2 dc2 pm2 an2 cd2 ct2), sl2⟩) (c2 : PySem.W.codeIn K cd2 "unfitted" = true) (k2 : PySem.W.keepIn K (.ref f2) = true)
    (a3 : PySem.W.nsIn K mainGlobals "reckoned" = some (some (.ref f3))) (l3 : K.lookup f3 = some ⟨oc3, od3, .func (PySem.W.fnOf "reckoned" "reckoned" (defArgs s_reckoned) (defBody s_reckoned) (defScope s_reckoned) .none kV3 dc3 pm3 an3 cd3 ct3), sl3⟩) (c3 : PySem.W.codeIn K cd3 "reckoned" = true) (k3 : PySem.W.keepIn K (.ref f3) = true)
    (a4 : PySem.W.nsIn K mainGlobals "_law_cell_at" = some (some (.ref f4))) (l4 : K.lookup f4 = some ⟨oc4, od4, .func (PySem.W.fnOf "_law_cell_at" "_law_cell_at" (defArgs s__law_cell_at) (defBody s__law_cell_at) (defScope s__law_cell_at) .none kV4 dc4 pm4 an4 cd4 ct4), sl4⟩) (c4 : PySem.W.codeIn K cd4 "_law_cell_at" = true) (k4 : PySem.W.keepIn K (.ref f4) = true)
    (a5 : PySem.W.nsIn K mainGlobals "_law_mixed" = some (some (.ref f5))) (l5 : K.lookup f5 = some ⟨oc5, od5, .func (PySem.W.fnOf "_law_mixed" "_law_mixed" (defArgs s__law_mixed) (defBody s__law_mixed) (defScope s__law_mixed) .none kV5 dc5 pm5 an5 cd5 ct5), sl5⟩) (c5 : PySem.W.codeIn K cd5 "_law_mixed" = true) (k5 : PySem.W.keepIn K (.ref f5) = true)
    (a6 : PySem.W.nsIn K mainGlobals "_law_number" = some (some (.ref f6))) (l6 : K.lookup f6 = some ⟨oc6, od6, .func (PySem.W.fnOf "_law_number" "_law_number" (defArgs s__law_number) (defBody s__law_number) (defScope s__law_number) .none kV6 dc6 pm6 an6 cd6 ct6), sl6⟩) (c6 : PySem.W.codeIn K cd6 "_law_number" = true) (k6 : PySem.W.keepIn K (.ref f6) = true)
    (a7 : PySem.W.nsIn K mainGlobals "_law_bits" = some (some (.ref f7))) (l7 : K.lookup f7 = some ⟨oc7, od7, .func (PySem.W.fnOf "_law_bits" "_law_bits" (defArgs s__law_bits) (defBody s__law_bits) (defScope s__law_bits) .none kV7 dc7 pm7 an7 cd7 ct7), sl7⟩) (c7 : PySem.W.codeIn K cd7 "_law_bits" = true) (k7 : PySem.W.keepIn K (.ref f7) = true)
    (a8 : PySem.W.nsIn K mainGlobals "_law_joined" = some (some (.ref f8))) (l8 : K.lookup f8 = some ⟨oc8, od8, .func (PySem.W.fnOf "_law_joined" "_law_joined" (defArgs s__law_joined) (defBody s__law_joined) (defScope s__law_joined) .none kV8 dc8 pm8 an8 cd8 ct8), sl8⟩) (c8 : PySem.W.codeIn K cd8 "_law_joined" = true) (k8 : PySem.W.keepIn K (.ref f8) = true)
    (a9 : PySem.W.nsIn K mainGlobals "_law_due" = some (some (.ref f9))) (l9 : K.lookup f9 = some ⟨oc9, od9, .func (PySem.W.fnOf "_law_due" "_law_due" (defArgs s__law_due) (defBody s__law_due) (defScope s__law_due) .none kV9 dc9 pm9 an9 cd9 ct9), sl9⟩) (c9 : PySem.W.codeIn K cd9 "_law_due" = true) (k9 : PySem.W.keepIn K (.ref f9) = true)
    (a10 : PySem.W.nsIn K mainGlobals "law" = some (some (.ref f10))) (l10 : K.lookup f10 = some ⟨oc10, od10, .func (PySem.W.fnOf "law" "law" (defArgs s_law) (defBody s_law) (defScope s_law) .none kV10 dc10 pm10 an10 cd10 ct10), sl10⟩) (c10 : PySem.W.codeIn K cd10 "law" = true) (k10 : PySem.W.keepIn K (.ref f10) = true)
    (da_SPANS : PySem.W.nsIn K mainGlobals "SPANS" = some (some (.ref d_SPANS))) (dl_SPANS : K.lookup d_SPANS = some ⟨.type "dict", none, .dict es_SPANS n_SPANS, #[]⟩) (de_SPANS : EntOk w es_SPANS.toList spans)
    (z_len : PySem.W.nsIn K mainGlobals "len" = some none)
    (z_isinstance : PySem.W.nsIn K mainGlobals "isinstance" = some none)
    (z_int : PySem.W.nsIn K mainGlobals "int" = some none)
    (z_bool : PySem.W.nsIn K mainGlobals "bool" = some none)
    (z_sum : PySem.W.nsIn K mainGlobals "sum" = some none)
    (z_list : PySem.W.nsIn K mainGlobals "list" = some none)
    (z_zip : PySem.W.nsIn K mainGlobals "zip" = some none)
    (z_range : PySem.W.nsIn K mainGlobals "range" = some none)
    : ∃ fd : FuncData, (∀ (s : Shared) (v : Value), BindsTo s fd ⟨[v], []⟩ [("_law_script", v)]) ∧ ∀ base : Heap, K.In base → base.Ns mainGlobals mg → FnOk l.prog w K mg base CX0 4 fa fd ["_law_script"] (spLaw K) := by
  have e := hfa.symm.trans (PySem.W.mg_of X G a10)
  cases e
  have B : Bls mg := ⟨PySem.W.mg_none_of X G z_len, PySem.W.mg_none_of X G z_isinstance, PySem.W.mg_none_of X G z_int, PySem.W.mg_none_of X G z_bool, PySem.W.mg_none_of X G z_sum, PySem.W.mg_none_of X G z_list, PySem.W.mg_none_of X G z_zip, PySem.W.mg_none_of X G z_range⟩
  have F0 := fun_mk (st := s_fit) l0 c0 k0
  have F_fit := F0
  have F1 := fun_mk (st := s_unfitted_of_two) l1 c1 k1
  have F_unfitted_of_two := F1
  have F2 := fun_mk (st := s_unfitted) l2 c2 k2
  have F_unfitted := F2
  have F3 := fun_mk (st := s_reckoned) l3 c3 k3
  have F_reckoned := F3
  have F4 := fun_mk (st := s__law_cell_at) l4 c4 k4
  have F__law_cell_at := F4
  have F5 := fun_mk (st := s__law_mixed) l5 c5 k5
  have F__law_mixed := F5
  have F6 := fun_mk (st := s__law_number) l6 c6 k6
  have F__law_number := F6
  have F7 := fun_mk (st := s__law_bits) l7 c7 k7
  have F__law_bits := F7
  have F8 := fun_mk (st := s__law_joined) l8 c8 k8
  have F__law_joined := F8
  have F9 := fun_mk (st := s__law_due) l9 c9 k9
  have F__law_due := F9
  have F10 := fun_mk (st := s_law) l10 c10 k10
  have F_law := F10
  refine ⟨PySem.W.fnOf "law" "law" (defArgs s_law) (defBody s_law) (defScope s_law) .none kV10 dc10 pm10 an10 cd10 ct10, fun s v => .of_eq rfl, fun base kb gb => ?_⟩
  have M_SPANS := PySem.W.mg_of X G da_SPANS
  have tb_SPANS : TabK l.prog w K d_SPANS spans := TabK.of dl_SPANS de_SPANS (by decide)
  have c_fit := calOf (P := l.prog) (w := w) (base := base) (ok_fit F0 M_SPANS tb_SPANS) (PySem.W.mg_of X G a0) k0 (F0.binds (ps := ["width", "number"]) fun _ _ _ _ _ _ us hl => match us, hl with | [_, _], _ => rfl)
  have c_unfitted_of_two := calOf (P := l.prog) (w := w) (base := base) (ok_unfitted_of_two F1 ) (PySem.W.mg_of X G a1) k1 (F1.binds (ps := ["word", "one", "other"]) fun _ _ _ _ _ _ us hl => match us, hl with | [_, _, _], _ => rfl)
  have c_unfitted := calOf (P := l.prog) (w := w) (base := base) (ok_unfitted F2 c_unfitted_of_two) (PySem.W.mg_of X G a2) k2 (F2.binds (ps := ["word", "one", "other"]) fun _ _ _ _ _ _ us hl => match us, hl with | [_, _, _], _ => rfl)
  have c_reckoned := calOf (P := l.prog) (w := w) (base := base) (ok_reckoned F3 c_fit c_unfitted) (PySem.W.mg_of X G a3) k3 (F3.binds (ps := ["width", "word", "one", "other"]) fun _ _ _ _ _ _ us hl => match us, hl with | [_, _, _, _], _ => rfl)
  have c__law_cell_at := calOf (P := l.prog) (w := w) (base := base) (ok__law_cell_at F4 B) (PySem.W.mg_of X G a4) k4 (F4.binds (ps := ["_law_script", "_law_k"]) fun _ _ _ _ _ _ us hl => match us, hl with | [_, _], _ => rfl)
  have c__law_mixed := calOf (P := l.prog) (w := w) (base := base) (ok__law_mixed F5 ) (PySem.W.mg_of X G a5) k5 (F5.binds (ps := ["_law_cell", "_law_k"]) fun _ _ _ _ _ _ us hl => match us, hl with | [_, _], _ => rfl)
  have c__law_number := calOf (P := l.prog) (w := w) (base := base) (ok__law_number F6 c__law_mixed) (PySem.W.mg_of X G a6) k6 (F6.binds (ps := ["_law_cell", "_law_width"]) fun _ _ _ _ _ _ us hl => match us, hl with | [_, _], _ => rfl)
  have c__law_bits := calOf (P := l.prog) (w := w) (base := base) (ok__law_bits F7 B) (PySem.W.mg_of X G a7) k7 (F7.binds (ps := ["_law_number_here", "_law_width"]) fun _ _ _ _ _ _ us hl => match us, hl with | [_, _], _ => rfl)
  have c__law_joined := calOf (P := l.prog) (w := w) (base := base) (ok__law_joined F8 B) (PySem.W.mg_of X G a8) k8 (F8.binds (ps := ["_law_bits_here"]) fun _ _ _ _ _ _ us hl => match us, hl with | [_], _ => rfl)
  have c__law_due := calOf (P := l.prog) (w := w) (base := base) (ok__law_due F9 B c__law_bits c__law_joined) (PySem.W.mg_of X G a9) k9 (F9.binds (ps := ["_law_word", "_law_width", "_law_one", "_law_other"]) fun _ _ _ _ _ _ us hl => match us, hl with | [_, _, _, _], _ => rfl)
  exact ok_law F10 B c_reckoned c__law_cell_at c__law_number c__law_due
theorem walk {l : PySem.W.OpenLaw} {q : Program} {loose : List Str} {XP : (Str → Option Value) → Heap → Prop} {YP : World → Heap → Prop} {d : DefRec} {K : Params → PySem.W.Frag} (hn : l.most = some 63) (hdf : d.params.defaults = [])
    (hY : ∀ (w : World) (h : Heap), YP w h → (K w.params).In h)
    (F : ∀ (w : World) (mg : Str → Option Value) (fa : Addr) (h : Heap), (K w.params).In h → h.Ns mainGlobals mg → mg d.name = some (.ref fa) →
      ∃ fd : FuncData, (∀ (s : Shared) (u : Value), BindsTo s fd ⟨[u], []⟩ [("_law_script", u)]) ∧ ∀ base : Heap, (K w.params).In base → base.Ns mainGlobals mg → FnOk l.prog w (K w.params) mg base CX0 4 fa fd ["_law_script"] (spLaw (K w.params))) :
    PySem.W.WalkO q loose XP YP l.row.toRowW d [] (fun f vs => PySem.call f vs) :=
  L2.walk_of (n := 63) (k := 4) (x := "_law_script") (CX := fun _ => CX0) (sp := fun w => spLaw (K w.params)) hn (by decide) hdf ⟨rfl, by decide, by decide⟩ hY F (fun _ _ a ns hl _ hS => ⟨a, ns, rfl, hS, hl, fun _ => rfl⟩) fun _ _ _ _ _ z => z
end K02
open PySem PySem.W PyProof.Rows
set_option maxRecDepth 100000 in
set_option maxHeartbeats 0 in
theorem PySem.Challenge.cw_hostturn_k02_reckoned_holds : PySem.Challenge.rw_hostturn_k02_reckoned.Holds := by
  w_on; o_law; k_head; (case hw => w_witness2)
  k_fill
  refine K02.walk (l := PySem.Challenge.rw_hostturn_k02_reckoned) rfl rfl (fun w h Y => PySem.W.kIn_of Y) ?F
  case F =>
    intro w mg fa h KX G hmg
    refine' K02.all_mk KX G hmg ?a0 ?l0 ?c0 ?k0 ?a1 ?l1 ?c1 ?k1 ?a2 ?l2 ?c2 ?k2 ?a3 ?l3 ?c3 ?k3 ?a4 ?l4 ?c4 ?k4 ?a5 ?l5 ?c5 ?k5 ?a6 ?l6 ?c6 ?k6 ?a7 ?l7 ?c7 ?k7 ?a8 ?l8 ?c8 ?k8 ?a9 ?l9 ?c9 ?k9 ?a10 ?l10 ?c10 ?k10 ?da_SPANS ?dl_SPANS ?de_SPANS ?z_len ?z_isinstance ?z_int ?z_bool ?z_sum ?z_list ?z_zip ?z_range
    (case a0 => k_is)
    (case l0 => k_is)
    (case c0 => k_is)
    (case k0 => k_is)
    (case a1 => k_is)
    (case l1 => k_is)
    (case c1 => k_is)
    (case k1 => k_is)
    (case a2 => k_is)
    (case l2 => k_is)
    (case c2 => k_is)
    (case k2 => k_is)
    (case a3 => k_is)
    (case l3 => k_is)
    (case c3 => k_is)
    (case k3 => k_is)
    (case a4 => k_is)
    (case l4 => k_is)
    (case c4 => k_is)
    (case k4 => k_is)
    (case a5 => k_is)
    (case l5 => k_is)
    (case c5 => k_is)
    (case k5 => k_is)
    (case a6 => k_is)
    (case l6 => k_is)
    (case c6 => k_is)
    (case k6 => k_is)
    (case a7 => k_is)
    (case l7 => k_is)
    (case c7 => k_is)
    (case k7 => k_is)
    (case a8 => k_is)
    (case l8 => k_is)
    (case c8 => k_is)
    (case k8 => k_is)
    (case a9 => k_is)
    (case l9 => k_is)
    (case c9 => k_is)
    (case k9 => k_is)
    (case a10 => k_is)
    (case l10 => k_is)
    (case c10 => k_is)
    (case k10 => k_is)
    (case da_SPANS => k_is)
    (case dl_SPANS => k_is)
    (case de_SPANS => repeat' (first | exact True.intro | exact rfl | exact ⟨_, rfl⟩ | constructor))
    (case z_len => k_is)
    (case z_isinstance => k_is)
    (case z_int => k_is)
    (case z_bool => k_is)
    (case z_sum => k_is)
    (case z_list => k_is)
    (case z_zip => k_is)
    (case z_range => k_is)
