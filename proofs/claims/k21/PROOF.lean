import PyProof.Rows.All
import Wide.All
import OpenK.AllK
import Wide.FinOn
import Lean
import PyProof.EqAt
import PyProof.EqKinds
import PyProof.TupleCall
import PyProof.ZipIter
import PyProof.ListNew
import PyProof.Rows.SetFrom
import PyProof.Rows.SortWalk
import PyProof.CollectWalk
import PyProof.SetRoads
import PySem.Challenge.RW_hostturn_k21_guests
set_option Elab.async false
set_option linter.all false
set_option maxRecDepth 100000
/-! THE HAND LAYER, for ints, bools, texts, own classes, LISTS and tuples (index, slices, in, append, pop ..), calls, loops. Paste it whole ahead of your own text; what your proof does not reach may be deleted. -/
namespace L2
open PySem PySem.Spec PyProof.Rows
/-- a key: an int or a str -/
abbrev Key := Sum Int Str
def keyIs : Key → Value → Bool
  | .inl k, v => Value.isInt k v
  | .inr x, v => Value.isStrOf x v
def keyH (w : World) : Key → Int
  | .inl k => hashInt k
  | .inr x => hashStr w x
theorem keyIs_shape : ∀ {k : Key} {v : Value}, keyIs k v = true → (∃ i t, k = Sum.inl i ∧ v = Value.int i t) ∨ (∃ x t, k = Sum.inr x ∧ v = Value.str x t)
  | .inl i, v, h => by
    obtain ⟨t, e⟩ := Value.isInt_shape (k := i) (v := v) h
    exact .inl ⟨i, t, rfl, e⟩
  | .inr x, v, h => by
    obtain ⟨t, e⟩ := Value.isStrOf_shape (x := x) (v := v) h
    exact .inr ⟨x, t, rfl, e⟩
theorem keyIs_int (i : Int) (t : Tok) : keyIs (.inl i) (.int i t) = true := by simp [keyIs, Value.isInt]
theorem keyIs_str (x : Str) (t : Tok) : keyIs (.inr x) (.str x t) = true := by simp [keyIs, Value.isStrOf]
theorem key_ll (a b : Int) : decide ((Sum.inl a : Key) = Sum.inl b) = (a == b) := by
  by_cases e : a = b
  · subst e; simp
  · have h : ¬ (Sum.inl a : Key) = Sum.inl b := fun q => e (Sum.inl.inj q)
    rw [decide_eq_false h]
    exact (beq_eq_false_iff_ne.mpr e).symm
theorem key_rr (a b : Str) : decide ((Sum.inr a : Key) = Sum.inr b) = decide (a = b) := by
  by_cases e : a = b
  · subst e; simp
  · have h : ¬ (Sum.inr a : Key) = Sum.inr b := fun q => e (Sum.inr.inj q)
    rw [decide_eq_false h, decide_eq_false e]
theorem key_lr (a : Int) (b : Str) : decide ((Sum.inl a : Key) = Sum.inr b) = false := decide_eq_false (fun q => nomatch q)
theorem key_rl (a : Str) (b : Int) : decide ((Sum.inr a : Key) = Sum.inl b) = false := decide_eq_false (fun q => nomatch q)
def mixKind (prog : Program) (w : World) : PySem.KeyKind prog w Key where
  is := keyIs
  hash := keyH w
  inj := fun v a b ha hb => by
    rcases keyIs_shape ha with ⟨i, t, rfl, rfl⟩ | ⟨x, t, rfl, rfl⟩
    · rcases keyIs_shape hb with ⟨j, u, rfl, e⟩ | ⟨y, u, rfl, e⟩
      · injection e with e1 _; rw [e1]
      · exact nomatch e
    · rcases keyIs_shape hb with ⟨j, u, rfl, e⟩ | ⟨y, u, rfl, e⟩
      · exact nomatch e
      · injection e with e1 _; rw [e1]
  byValue := fun k v h => by
    rcases keyIs_shape h with ⟨i, t, rfl, rfl⟩ | ⟨x, t, rfl, rfl⟩ <;> rfl
  pyHash := fun hv h => by
    rcases keyIs_shape hv with ⟨i, t, rfl, rfl⟩ | ⟨x, t, rfl, rfl⟩
    · exact wpAny_pyHash_int h
    · exact wpAny_pyHash_str h
  eqBool := fun hu hv h => by
    rcases keyIs_shape hu with ⟨i, t, rfl, rfl⟩ | ⟨x, t, rfl, rfl⟩
    · rcases keyIs_shape hv with ⟨j, u, rfl, rfl⟩ | ⟨y, u, rfl, rfl⟩
      · rw [key_ll] at h; exact wpAny_eqBool_int h
      · rw [key_lr] at h; exact SeqAt.EqAt.int_str i t y u _ _ _ _ h
    · rcases keyIs_shape hv with ⟨j, u, rfl, rfl⟩ | ⟨y, u, rfl, rfl⟩
      · rw [key_rl] at h; exact SeqAt.EqAt.str_int x t j u _ _ _ _ h
      · rw [key_rr] at h; exact wpAny_eqBool_str h
  «strs» := fun k x t v h => by
    rcases keyIs_shape h with ⟨i, u, rfl, e⟩ | ⟨y, u, rfl, e⟩
    · exact nomatch e
    · injection e with e1 _
      subst e1
      cases v <;> rfl
theorem mixKind_int (prog : Program) (w : World) (i : Int) (t : Tok) : (mixKind prog w).is (.inl i) (.int i t) = true := keyIs_int i t
theorem mixKind_str (prog : Program) (w : World) (x : Str) (t : Tok) : (mixKind prog w).is (.inr x) (.str x t) = true := keyIs_str x t
end L2
namespace L2
open PySem PySem.Spec PyProof.Rows
/-- a value, without the heap -/
inductive V where
  | non | bl (b : Bool) | int (i : Int) | str (x : Str) | byt (b : Array UInt8) | flt (b : UInt64) | ref (a : Addr) | ty (n : String)
  deriving DecidableEq
def RelV : V → Value → Prop
  | .non, u => u = Value.none
  | .bl b, u => u = Value.bool b
  | .int i, u => ∃ t, u = Value.int i t
  | .str x, u => ∃ t, u = Value.str x t
  | .byt b, u => ∃ t, u = Value.bytes b t
  | .flt b, u => ∃ t, u = Value.float b t
  | .ref a, u => u = Value.ref a
  | .ty n, u => u = Value.type n
abbrev Vals : List V → List Value → Prop := Paired RelV
theorem Vals.length {xs : List V} {us : List Value} (r : Vals xs us) : xs.length = us.length := Paired.length r
theorem Vals.get : ∀ {xs : List V} {us : List Value} {i : Nat} {x : V}, Vals xs us → xs[i]? = some x → ∃ u, us[i]? = some u ∧ RelV x u
  | _, _, _, _, .nil, e => by simp at e
  | _, _, 0, _, .cons r _, e => by simp at e; subst e; exact ⟨_, rfl, r⟩
  | _, _, i + 1, x, .cons _ t, e => by
    obtain ⟨u, h1, h2⟩ := Vals.get (i := i) (x := x) t (by simpa using e)
    exact ⟨u, by simpa using h1, h2⟩
theorem Vals.set {x : V} {u : Value} (r : RelV x u) : ∀ {xs : List V} {us : List Value} (i : Nat), Vals xs us → Vals (xs.set i x) (us.set i u)
  | _, _, _, .nil => .nil
  | _, _, 0, .cons _ t => .cons r t
  | _, _, i + 1, .cons q t => .cons q (Vals.set r i t)
theorem Vals.append : ∀ {xs ys : List V} {us ws : List Value}, Vals xs us → Vals ys ws → Vals (xs ++ ys) (us ++ ws)
  | _, _, _, _, .nil, s => s
  | _, _, _, _, .cons r t, s => .cons r (Vals.append t s)
theorem Vals.take : ∀ {xs : List V} {us : List Value} (n : Nat), Vals xs us → Vals (xs.take n) (us.take n)
  | _, _, 0, _ => .nil
  | _, _, _ + 1, .nil => .nil
  | _, _, n + 1, .cons r t => .cons r (Vals.take n t)
theorem Vals.drop : ∀ {xs : List V} {us : List Value} (n : Nat), Vals xs us → Vals (xs.drop n) (us.drop n)
  | _, _, 0, r => r
  | _, _, _ + 1, .nil => .nil
  | _, _, n + 1, .cons _ t => Vals.drop n t
theorem Vals.none_of : ∀ {xs : List V} {us : List Value} {i : Nat}, Vals xs us → xs[i]? = none → us[i]? = none := fun {xs us i} r e => by
  have h1 := r.length
  have h2 : xs.length ≤ i := List.getElem?_eq_none_iff.mp e
  exact List.getElem?_eq_none_iff.mpr (by omega)
def RelO : Option V → Option Value → Prop
  | some v, some u => RelV v u
  | none, none => True
  | _, _ => False
def KV {κ : Type} : List (κ × V) → List (κ × Value) → Prop := Paired fun (p : κ × V) (q : κ × Value) => p.1 = q.1 ∧ RelV p.2 q.2
/-- a key of a dict (00_mix): an int or a text -/
def kV : Key → V
  | .inl i => .int i
  | .inr x => .str x
/-- what stands at a tracked address -/
inductive HO where
  /-- a list -/
  | lst (xs : List V)
  /-- a tuple (never changes) -/
  | tup (xs : List V)
  /-- a dict whose keys are ints and texts; one whose keys are tuples of ints and texts (the empty one is both) -/
  | dK (kvs : List (Key × V)) | dT (kvs : List (List Key × V))
  /-- a set of ints: its members, its size -/
  | set (S : Int → Bool) (n : Nat)
  /-- an instance of the class at C, its dict at dx, its attributes -/
  | ins (C dx : Addr) (fs : List (Str × V))
  /-- the dict of the instance at x -/
  | own (x : Addr)
  /-- the dict of an exception -/
  | xd (fs : List (Str × V))
  /-- a bound method, f of x -/
  | met (f x : Addr)
  /-- a range object lo, lo + 1, .. below hi -/
  | rng (lo hi : Int)
  /-- a thing that is known to the object (the script; a dict while a loop walks it): read, never written while it is so -/
  | frz (o : Obj) (u : HO)
  /-- a code object's table -/
  | tbl (ps : Array Value)
  /-- any other thing, by what is true of its one object (a def of one's own: SetO a S n := HO.ext fun h => ..) -/
  | ext (φ : Heap → Prop)
abbrev Hp := Addr → Option HO
def upd (H : Hp) (a : Addr) (o : HO) : Hp := fun b => if b = a then some o else H b
theorem upd_same {H : Hp} {a : Addr} {o : HO} : upd H a o a = some o := by unfold upd; rw [if_pos rfl]
theorem upd_ne {H : Hp} {a b : Addr} {o : HO} (h : b ≠ a) : upd H a o b = H b := by unfold upd; rw [if_neg h]
theorem ne_of_none {H : Hp} {a b : Addr} {o : HO} (h : H a = some o) (h' : H b = none) : a ≠ b := by
  intro e; subst e; rw [h] at h'; cases h'
section
variable (P : Program) (w : World)
def ObjOk (H : Hp) (h : Heap) (a : Addr) : HO → Prop
  | .lst xs => xs.length ≤ sizeLine ∧ ∃ (its : List Value) (n : Nat), Vals xs its ∧ h.get? a = some { cls := .type "list", data := .seq its.toArray n }
  | .tup xs => xs.length ≤ sizeLine ∧ ∃ its : List Value, Vals xs its ∧ IsTup h a its.toArray
  | .dK kvs => kvs.length ≤ sizeLine ∧ (a == sysModules) = false ∧ ∃ vs, KV kvs vs ∧ h.DictOf (mixKind P w) a vs
  | .dT kvs => kvs.length ≤ sizeLine ∧ (a == sysModules) = false ∧ ∃ xs : List (List Key × Addr × Value),
      Paired (fun (p : List Key × V) (q : List Key × Addr × Value) => p.1 = q.1 ∧ H q.2.1 = some (.tup (p.1.map kV)) ∧ RelV p.2 q.2.2) kvs xs ∧
      ∃ o es ep, h.get? a = some o ∧ o.ExactDict ∧ o.data = .dict es ep ∧ es.toList = xs.map (entryOfKey (tupleKind (mixKind P w))) ∧ (xs.map (·.1)).Nodup
  | .set S n => h.SetOf (intKind P w) a S n
  | .ins C dx fs => H dx = some (.own a) ∧ fs.length ≤ 1000 ∧ dx ≠ a ∧ h.get? a = some (PySem.W.instObj C dx) ∧
      ∃ mA, h.Ns1 dx mA ∧ (∀ f, RelO (fs.lookup f) (mA f)) ∧ PySem.Within mA (fs.map (·.1))
  | .own _ => ∃ o, h.get? a = some o
  | .xd fs => ∃ mA, h.Ns1 a mA ∧ ∀ f, RelO (fs.lookup f) (mA f)
  | .rng lo hi => ∃ t u v, h.get? a = some { cls := .type "range", data := .fields #[.int lo t, .int hi u, .int 1 v] }
  | .frz o u => h.get? a = some o ∧ ObjOk H h a u
  | .tbl ps => h.get? a = some { cls := .none, data := .fields ps }
  | .met f x => h.get? a = some (PySem.W.methodObj (.ref f) (.ref x))
  | .ext φ => φ h ∧ (∃ o, h.get? a = some o) ∧ ∀ h1 h2 : Heap, φ h1 → (∀ o, h1.get? a = some o → h2.get? a = some o) → φ h2
/-- the abstract heap is held -/
def HOk (H : Hp) (h : Heap) : Prop := ∀ a o, H a = some o → ObjOk P w H h a o
end
section
variable {P : Program} {w : World} {H H' : Hp} {h h' : Heap} {a : Addr} {o : HO}
theorem ObjOk.lt (x : ObjOk P w H h a o) : a < h.objs.size := by
  cases o with
  | lst xs => obtain ⟨_, _, _, _, e⟩ := x; exact Heap.lt_size e
  | tup xs => obtain ⟨_, _, _, p⟩ := x; exact p.lt
  | dK kvs => obtain ⟨_, _, _, _, o, _, _, e, _⟩ := x; exact Heap.lt_size e
  | dT kvs => obtain ⟨_, _, _, _, o, _, _, e, _⟩ := x; exact Heap.lt_size e
  | set S n => obtain ⟨o, _, _, _, e, _⟩ := x; exact Heap.lt_size e
  | ins C dx fs => obtain ⟨_, _, _, e, _⟩ := x; exact Heap.lt_size e
  | own y => obtain ⟨_, e⟩ := x; exact Heap.lt_size e
  | xd fs => obtain ⟨_, ⟨_, _, _, e, _⟩, _⟩ := x; exact Heap.lt_size e
  | rng lo hi => obtain ⟨_, _, _, e⟩ := x; exact Heap.lt_size e
  | frz ob u => obtain ⟨e, _⟩ := x; exact Heap.lt_size e
  | tbl ps => exact Heap.lt_size (show h.get? a = some _ from x)
  | met f y => exact Heap.lt_size (show h.get? a = some _ from x)
  | ext φ => obtain ⟨_, ⟨_, e⟩, _⟩ := x; exact Heap.lt_size e
theorem Paired.mapP {α β : Type} {F G : α → β → Prop} : ∀ {l₁ : List α} {l₂ : List β}, Paired F l₁ l₂ → (∀ a b, F a b → G a b) → Paired G l₁ l₂
  | _, _, .nil, _ => .nil
  | _, _, .cons r t, f => .cons (f _ _ r) (Paired.mapP t f)
/-- what an object's description leans on: its own object, its own dict, the tuples -/
theorem ObjOk.stay (x : ObjOk P w H h a o) (k : ∀ b u, (b = a ∨ H b = some (.own a)) → h.get? b = some u → h'.get? b = some u)
    (ho : ∀ b, H b = some (.own a) → H' b = some (.own a)) (ht : ∀ b xs, H b = some (.tup xs) → H' b = some (.tup xs)) : ObjOk P w H' h' a o := by
  induction o with
  | lst xs => obtain ⟨z, its, n, r, e⟩ := x; exact ⟨z, its, n, r, k _ _ (.inl rfl) e⟩
  | tup xs => obtain ⟨z, its, r, ob, e, c⟩ := x; exact ⟨z, its, r, ob, k _ _ (.inl rfl) e, c⟩
  | dK kvs => obtain ⟨z, y, vs, r, ob, es, ep, e, c⟩ := x; exact ⟨z, y, vs, r, ob, es, ep, k _ _ (.inl rfl) e, c⟩
  | dT kvs =>
    obtain ⟨z, y, xs, r, ob, es, ep, e, c⟩ := x
    exact ⟨z, y, xs, Paired.mapP r fun p q z => ⟨z.1, ht _ _ z.2.1, z.2.2⟩, ob, es, ep, k _ _ (.inl rfl) e, c⟩
  | set S n => obtain ⟨ob, es, ep, t, e, c⟩ := x; exact ⟨ob, es, ep, t, k _ _ (.inl rfl) e, c⟩
  | ins C dx fs =>
    obtain ⟨d, z, ne, e, mA, ⟨od, es, ep, e2, c⟩, r⟩ := x
    exact ⟨ho _ d, z, ne, k _ _ (.inl rfl) e, mA, ⟨od, es, ep, k _ _ (.inr d) e2, c⟩, r⟩
  | own y => obtain ⟨ob, e⟩ := x; exact ⟨ob, k _ _ (.inl rfl) e⟩
  | xd fs => obtain ⟨mA, ⟨od, es, ep, e, c⟩, r⟩ := x; exact ⟨mA, ⟨od, es, ep, k _ _ (.inl rfl) e, c⟩, r⟩
  | rng lo hi => obtain ⟨t, u, v, e⟩ := x; exact ⟨t, u, v, k _ _ (.inl rfl) e⟩
  | frz ob u ih => obtain ⟨e, q⟩ := x; exact ⟨k _ _ (.inl rfl) e, ih q⟩
  | tbl ps =>
    have e : h.get? a = some { cls := .none, data := .fields ps } := x
    show h'.get? a = some { cls := .none, data := .fields ps }
    exact k a _ (.inl rfl) e
  | met f y =>
    have e : h.get? a = some (PySem.W.methodObj (.ref f) (.ref y)) := x
    show h'.get? a = some (PySem.W.methodObj (.ref f) (.ref y))
    exact k a _ (.inl rfl) e
  | ext φ => obtain ⟨p, ⟨o, e⟩, st⟩ := x; exact ⟨st _ _ p fun o q => k _ _ (.inl rfl) q, ⟨o, k _ _ (.inl rfl) e⟩, st⟩
theorem HOk.lt (x : HOk P w H h) (e : H a = some o) : a < h.objs.size := (x a o e).lt
theorem HOk.fresh (x : HOk P w H h) (e : h.objs.size ≤ a) : H a = none := by
  cases q : H a with
  | none => rfl
  | some u => exact absurd (Nat.lt_of_lt_of_le (x.lt q) e) (Nat.lt_irrefl _)
/-- every object of the heap is kept -/
theorem HOk.kept (x : HOk P w H h) (k : ∀ b u, h.get? b = some u → h'.get? b = some u) : HOk P w H h' := fun a o e =>
  (x a o e).stay (fun b u _ q => k b u q) (fun _ q => q) fun _ _ q => q
/-- a new object is laid and tracked -/
theorem HOk.laid (x : HOk P w H h) (k : ∀ b u, h.get? b = some u → h'.get? b = some u) (hp : h.objs.size ≤ a) (new : ObjOk P w (upd H a o) h' a o) : HOk P w (upd H a o) h' := fun b u e => by
  have hn := x.fresh hp
  by_cases hb : b = a
  · subst hb; rw [upd_same] at e; cases e; exact new
  · rw [upd_ne hb] at e
    exact (x b u e).stay (fun c v _ q => k c v q) (fun c q => by rw [upd_ne (ne_of_none q hn)]; exact q) fun c xs q => by rw [upd_ne (ne_of_none q hn)]; exact q
end
/-- what may be read as u: it is u, or a known u -/
def Rd (H : Hp) (a : Addr) (u : HO) : Prop := H a = some u ∨ ∃ o, H a = some (.frz o u)
theorem Rd.of {H : Hp} {a : Addr} {u : HO} (h : H a = some u) : Rd H a u := .inl h
theorem Rd.ok {P : Program} {w : World} {H : Hp} {h : Heap} {a : Addr} {u : HO} (r : Rd H a u) (x : HOk P w H h) : ObjOk P w H h a u := by
  rcases r with r | ⟨o, r⟩
  · exact x a u r
  · obtain ⟨_, q⟩ := x a _ r
    exact q
/-- what may be written -/
def Mut : Option HO → Prop
  | some (.lst _) => True
  | some (.dK _) => True
  | some (.dT _) => True
  | some (.set _ _) => True
  | some (.ins _ _ _) => True
  | some (.ext _) => True
  | _ => False
section
variable {P : Program} {w : World} {H : Hp} {h h' : Heap} {x e : Addr} {o' : HO}
/-- the object at e is changed: x itself, or the dict of the instance x -/
theorem HOk.write (ok : HOk P w H h) (mu : Mut (H x)) (he : e = x ∨ H e = some (.own x)) (k : ∀ b u, b ≠ e → h.get? b = some u → h'.get? b = some u) (heo : ∃ u, h'.get? e = some u)
    (new : ObjOk P w (upd H x o') h' x o') : HOk P w (upd H x o') h' := fun b u q => by
  have nown : ∀ c y, H c = some (.own y) → c ≠ x := fun c y r z => by subst z; rw [r] at mu; exact mu
  have ntup : ∀ c xs, H c = some (.tup xs) → c ≠ x := fun c xs r z => by subst z; rw [r] at mu; exact mu
  by_cases hb : b = x
  · subst hb; rw [upd_same] at q; cases q; exact new
  · rw [upd_ne hb] at q
    by_cases hbe : b = e
    · have q' : H b = some (.own x) := by
        rcases he with z | z
        · exact absurd (hbe.trans z) hb
        · rw [hbe]; exact z
      rw [q] at q'; cases q'
      obtain ⟨v, hv⟩ := heo
      exact ⟨v, by rw [hbe]; exact hv⟩
    · refine (ok b u q).stay (fun c v hc r => k c v ?_ r) (fun c r => by rw [upd_ne (nown c b r)]; exact r) fun c xs r => by rw [upd_ne (ntup c xs r)]; exact r
      rcases hc with rfl | hc
      · exact hbe
      · rintro rfl
        rcases he with z | z
        · exact nown c b hc z
        · rw [hc] at z; cases z; exact hb rfl
end
/-! ### kept unless tracked; of the frames at fs (the callers') the slots may change (an exception that passes writes there); of the records at ex (iterators) nothing is said -/
structure Un (fs ex : List Addr) (H H' : Hp) (h h' : Heap) : Prop where
  keep : ∀ b o, h.get? b = some o → H b = none → b ∉ fs → b ∉ ex → h'.get? b = some o
  slot : ∀ b o, h.get? b = some o → H b = none → b ∈ fs → b ∉ ex → ∃ sl, h'.get? b = some { o with slots := sl }
  free : ∀ b o, h.get? b = some o → H b = none → b ∉ ex → H' b = none
  there : ∀ b o, h.get? b = some o → b ∉ ex → ∃ o', h'.get? b = some o'
  tups : ∀ b xs, H b = some (.tup xs) → H' b = some (.tup xs)
  frzs : ∀ b o u, H b = some (.frz o u) → H' b = some (.frz o u)
  tbls : ∀ b ps, H b = some (.tbl ps) → ∃ more, H' b = some (.tbl (ps ++ more))
section
variable {fs fs' ex ex' : List Addr} {H H1 H2 : Hp} {h h1 h2 h' : Heap} {a x e : Addr} {o : HO}
theorem Un.any (u : Un fs ex H H1 h h1) {b : Addr} {ob : Obj} (q : h.get? b = some ob) (n : H b = none) (hx : b ∉ ex) : ∃ sl, h1.get? b = some { ob with slots := sl } := by
  by_cases hb : b ∈ fs
  · exact u.slot b ob q n hb hx
  · exact ⟨ob.slots, u.keep b ob q n hb hx⟩
theorem Un.trans (a : Un fs ex H H1 h h1) (b : Un fs ex H1 H2 h1 h2) : Un fs ex H H2 h h2 where
  keep := fun c ob q n hc hx => b.keep c ob (a.keep c ob q n hc hx) (a.free c ob q n hx) hc hx
  slot := fun c ob q n hc hx => by
    obtain ⟨sl, e1⟩ := a.slot c ob q n hc hx
    obtain ⟨sl', e2⟩ := b.slot c _ e1 (a.free c ob q n hx) hc hx
    exact ⟨sl', e2⟩
  free := fun c ob q n hx => by
    obtain ⟨o', e1⟩ := a.there c ob q hx
    exact b.free c o' e1 (a.free c ob q n hx) hx
  there := fun c ob q hx => by
    obtain ⟨o', e1⟩ := a.there c ob q hx
    exact b.there c o' e1 hx
  tups := fun c xs q => b.tups c xs (a.tups c xs q)
  frzs := fun c ob xs q => b.frzs c ob xs (a.frzs c ob xs q)
  tbls := fun c ps q => by
    obtain ⟨m1, e1⟩ := a.tbls c ps q
    obtain ⟨m2, e2⟩ := b.tbls c _ e1
    exact ⟨m1 ++ m2, by rw [e2, Array.append_assoc]⟩
theorem Un.kept (k : ∀ b u, h.get? b = some u → h'.get? b = some u) : Un fs ex H H h h' :=
  ⟨fun b ob q _ _ _ => k b ob q, fun b ob q _ _ _ => ⟨ob.slots, k b ob q⟩, fun _ _ _ n _ => n, fun b ob q _ => ⟨ob, k b ob q⟩, fun _ _ q => q, fun _ _ _ q => q, fun _ ps q => ⟨#[], by rw [q]; simp⟩⟩
theorem Un.refl : Un fs ex H H h h := Un.kept fun _ _ q => q
theorem Un.laid (k : ∀ b u, h.get? b = some u → h'.get? b = some u) (hp : h.objs.size ≤ a) (hn : H a = none) : Un fs ex H (upd H a o) h h' where
  keep := fun b u q _ _ _ => k b u q
  slot := fun b u q _ _ _ => ⟨u.slots, k b u q⟩
  free := fun b u q n _ => by rw [upd_ne (Nat.ne_of_lt (Nat.lt_of_lt_of_le (Heap.lt_size q) hp))]; exact n
  there := fun b u q _ => ⟨u, k b u q⟩
  tups := fun b xs q => by rw [upd_ne (ne_of_none q hn)]; exact q
  frzs := fun b u xs q => by rw [upd_ne (ne_of_none q hn)]; exact q
  tbls := fun b ps q => ⟨#[], by rw [upd_ne (ne_of_none q hn), q]; simp⟩
theorem Un.write (mu : Mut (H x)) (he : e = x ∨ H e = some (.own x)) (k : ∀ b u, b ≠ e → h.get? b = some u → h'.get? b = some u) (heo : ∃ u, h'.get? e = some u) : Un fs ex H (upd H x o) h h' := by
  have hx : ∀ b, H b = none → b ≠ x := fun b n z => by subst z; rw [n] at mu; exact mu
  have hb : ∀ b, H b = none → b ≠ e := fun b n z => by
    subst z
    rcases he with r | r
    · exact hx b n r
    · rw [n] at r; cases r
  have hm : ∀ b u, H b = some u → ¬ Mut (some u) → b ≠ x := fun b u q nm z => by subst z; rw [q] at mu; exact nm mu
  refine ⟨fun b u q n _ _ => k b u (hb b n) q, fun b u q n _ _ => ⟨u.slots, k b u (hb b n) q⟩, fun b u q n _ => by rw [upd_ne (hx b n)]; exact n, fun b u q _ => ?_,
    fun b xs q => by rw [upd_ne (hm b _ q fun z => z)]; exact q, fun b u xs q => by rw [upd_ne (hm b _ q fun z => z)]; exact q, fun b ps q => ⟨#[], by rw [upd_ne (hm b _ q fun z => z), q]; simp⟩⟩
  by_cases hbe : b = e
  · subst hbe; exact heo
  · exact ⟨u, k b u hbe q⟩
theorem Un.mono (u : Un fs ex H H1 h h1) (hs : ∀ b ∈ fs, b ∈ fs') (hx : ∀ b ∈ ex, b ∈ ex') : Un fs' ex' H H1 h h1 :=
  ⟨fun b ob q n hb he => u.keep b ob q n (fun z => hb (hs b z)) fun z => he (hx b z), fun _ _ q n _ he => u.any q n fun z => he (hx _ z), fun b ob q n he => u.free b ob q n fun z => he (hx b z), fun b ob q he => u.there b ob q fun z => he (hx b z), u.tups, u.frzs, u.tbls⟩
end
/-! ### the heap without what is tracked -/
def trk (h : Heap) (H : Hp) : List Addr := (List.range h.objs.size).filter fun a => (H a).isSome
def hidT (h : Heap) (H : Hp) : Heap := PySem.W.hideAll h (trk h H)
theorem hidT_size (h : Heap) (H : Hp) : (hidT h H).objs.size = h.objs.size := PySem.W.hideAll_size _ _
theorem hidT_get {h : Heap} {H : Hp} {b : Addr} {o : Obj} (e : h.get? b = some o) (n : H b = none) : (hidT h H).get? b = some o :=
  PySem.W.hideAll_get _ e fun hm => by
    have q : (H b).isSome = true := (List.mem_filter.mp hm).2
    rw [n] at q; simp at q
theorem of_hidT {h : Heap} {H : Hp} {b : Addr} {o : Obj} (e : (hidT h H).get? b = some o) : h.get? b = some o ∧ H b = none := by
  have e' : h.get? b = some o := PySem.W.of_hideAll (trk h H) e
  refine ⟨e', ?_⟩
  cases q : H b with
  | none => rfl
  | some x =>
    have hm : b ∈ trk h H := List.mem_filter.mpr ⟨List.mem_range.mpr (Heap.lt_size e'), by simp [q]⟩
    have z : (hidT h H).get? b = none := PySem.W.hideAll_none (trk h H) hm
    rw [z] at e; cases e
/-! ### OpenK's ledger, filled with every new object but one -/
def allNews (g h : Heap) (L : Addr) : List (Addr × Obj) := (List.range h.objs.size).filterMap fun a => if a = L ∨ (g.get? a).isSome = true then none else (h.get? a).map fun o => (a, o)
def rest (g h : Heap) (L d : Addr) : List (Addr × Obj) := (allNews g h L).filter fun p => decide (p.1 ≠ d)
end L2
namespace L2
open PySem PySem.Spec PyProof.Rows
/-- the module's facts, over the base: the heap at the law's entry without what is tracked there -/
structure Mod (K : PySem.W.Frag) (mg : Str → Option Value) (base : Heap) : Prop where
  kin : K.In base
  glob : base.Ns mainGlobals mg
  blt : ∃ mb, base.Ns builtinsNs mb ∧ ∀ x : Str, x ≠ "__name__" → mb x = bootBuiltins x
  nolimit : base.NoLimit
/-- the context: a def's body (or a comprehension's block) running. base: fixed through the whole law; s₀, H₀: the entry; outer: the frames whose slots others may change (a def's callers); stack: all frames that run;
   ex: iterators that were made ahead of the entry and are walked here (a comprehension's); fn: the names whose cells were made at the entry (a def: all; a comprehension's block: its own); calm: not within an except suite; pn: pins that every state bears; xe: what is wanted of an exception that leaves the code -/
structure Cx where
  prog : Program
  w : World
  K : PySem.W.Frag
  mg : Str → Option Value
  base : Heap
  A : Around
  N : List Str
  s₀ : Shared
  H₀ : Hp
  env : Env
  outer : List Env
  stack : List Env
  ex : List Addr
  fn : Str → Bool
  calm : Bool
  pn : List (Addr × Obj)
  xe : Value → Shared → Prop
/-- the callers' frames -/
def frs (l : List Env) : List Addr := l.filterMap (·.frame)
abbrev Cx.fs (X : Cx) : List Addr := frs X.outer
def Vis (sc : Scope) (x : Str) : Prop := sc.names.lookup x = some .local ∨ sc.names.lookup x = some .cell ∨ sc.names.lookup x = some .free
def Loc (sc : Scope) (x : Str) : Prop := sc.names.lookup x = some .local ∨ sc.names.lookup x = some .cell
def Look (env : Env) (h : Heap) (m : Str → Option Value) (x : Str) (u : Value) : Prop :=
  (env.kindOf x = some .local ∧ m x = some u) ∨ ((env.kindOf x = some .cell ∨ env.kindOf x = some .free) ∧ ∃ c, env.cells.lookup x = some c ∧ h.IsCell c (some u))
structure Cx.Ok (X : Cx) : Prop where
  mod : Mod X.K X.mg X.base
  kind : X.env.scope.kind = .function
  glob : X.env.globals = mainGlobals
  blt : X.env.builtins = builtinsNs
  above : X.s₀.heap.objs.size ≤ X.env.locals
  inj : ∀ x y c, X.env.cells.lookup x = some c → X.env.cells.lookup y = some c → x = y
  has : ∀ x, (X.env.kindOf x = some .cell ∨ X.env.kindOf x = some .free) → ∃ c, X.env.cells.lookup x = some c
  cab : ∀ x c, X.fn x = true → X.env.cells.lookup x = some c → X.s₀.heap.objs.size ≤ c
  hd : X.calm = true → X.A.handled = none
  frames : X.A.frames = some X.stack
  stk : X.stack = X.outer ∨ (X.stack = X.env :: X.outer ∧ X.env.frame = some X.env.locals)
  exf : ∀ b ∈ X.ex, b ≠ X.env.locals ∧ ∀ x c, X.env.cells.lookup x = some c → c ≠ b
  bs : ∀ b o, X.base.get? b = some o → X.s₀.heap.get? b = some o ∧ X.H₀ b = none
  bsz : X.base.objs.size ≤ X.s₀.heap.objs.size
  noex : ∀ b o, X.base.get? b = some o → b ∉ X.ex
  exfs : ∀ b ∈ X.ex, b ∉ X.fs
  funs : X.s₀.heap.FunFrames X.base X.outer
  frf : ∀ b ∈ X.fs, X.H₀ b = none
structure Inv (X : Cx) (pins : List (Addr × Obj)) (σ : List (Option V)) (H : Hp) (s : Shared) : Prop where
  ok : X.Ok
  os : s.os = X.s₀.os
  bare : AllBare s.gens
  base : Un X.fs X.ex X.H₀ H X.s₀.heap s.heap
  loc : ∃ m, s.heap.Ns X.env.locals m ∧ ∀ (i : Nat) (x : Str) (v : V), X.N[i]? = some x → σ[i]? = some (some v) → Vis X.env.scope x → ∃ u, RelV v u ∧ Look X.env s.heap m x u
  cell : ∀ x c, X.env.cells.lookup x = some c → ∃ v, s.heap.IsCell c v
  free : H X.env.locals = none
  freeC : ∀ x c, X.env.cells.lookup x = some c → H c = none
  pin : ∀ p ∈ X.pn ++ pins, s.heap.get? p.1 = some p.2 ∧ H p.1 = none ∧ p.1 ≠ X.env.locals ∧ p.1 ∉ X.fs ∧ ∀ v, p.2.data ≠ .cell v
  hok : HOk X.prog X.w H s.heap
  len : σ.length = X.N.length
section
variable {X : Cx} {pins : List (Addr × Obj)} {σ : List (Option V)} {H H' : Hp} {s : Shared} {h' : Heap}
theorem Cx.Ok.nofr (ok : X.Ok) {b : Addr} {o : Obj} (e : X.base.get? b = some o) : b ∉ X.fs := fun hb => by
  have := (ok.funs.mem hb).1
  rw [e] at this; cases this
theorem Inv.bs (I : Inv X pins σ H s) : ∀ b o, X.base.get? b = some o → s.heap.get? b = some o ∧ H b = none := fun b o e =>
  ⟨I.base.keep b o (I.ok.bs b o e).1 (I.ok.bs b o e).2 (I.ok.nofr e) (I.ok.noex b o e), I.base.free b o (I.ok.bs b o e).1 (I.ok.bs b o e).2 (I.ok.noex b o e)⟩
theorem Inv.bk (I : Inv X pins σ H s) : ∀ b o, X.base.get? b = some o → s.heap.get? b = some o := fun b o e => (I.bs b o e).1
theorem Inv.mod (I : Inv X pins σ H s) : Mod X.K X.mg X.base := I.ok.mod
theorem Inv.kIn (I : Inv X pins σ H s) : X.K.In s.heap := I.ok.mod.kin.keeps I.bk
theorem Inv.nolimit (I : Inv X pins σ H s) : s.heap.NoLimit := I.ok.mod.nolimit.keeps I.bk
/-- the frame over the base: for OpenK's rules (K.In X.base is I.mod.kin) -/
theorem Inv.fr (I : Inv X pins σ H s) : ∃ m, Fr X.base X.env.locals s.heap m :=
  let ⟨m, hn, _⟩ := I.loc
  ⟨m, hn, I.bk, Nat.le_trans I.ok.bsz I.ok.above⟩
theorem Inv.lt (I : Inv X pins σ H s) : X.env.locals < s.heap.objs.size := let ⟨_, hn, _⟩ := I.loc; hn.lt
theorem Inv.sz (I : Inv X pins σ H s) : X.s₀.heap.objs.size ≤ s.heap.objs.size := Nat.le_trans I.ok.above (Nat.le_of_lt I.lt)
theorem Inv.nofs (I : Inv X pins σ H s) {a : Addr} (h : s.heap.objs.size ≤ a) : a ∉ X.fs := fun hb => by
  obtain ⟨_, o, ho, _⟩ := I.ok.funs.mem hb
  exact absurd (Nat.lt_of_lt_of_le (Heap.lt_size ho) (Nat.le_trans I.sz h)) (Nat.lt_irrefl _)
theorem Inv.cne (I : Inv X pins σ H s) : ∀ x c, X.env.cells.lookup x = some c → c ≠ X.env.locals := fun x c e z => by
  obtain ⟨v, o, ho, hd⟩ := I.cell x c e
  obtain ⟨m, ⟨o', es, ep, ho', hd', _⟩, _⟩ := I.loc
  rw [z, ho'] at ho; cases ho; rw [hd'] at hd; cases hd
theorem Inv.funs (I : Inv X pins σ H s) : s.heap.FunFrames X.base X.outer := by
  have all : ∀ (l : List Env), (∀ b ∈ frs l, b ∈ X.fs) → X.s₀.heap.FunFrames X.base l → s.heap.FunFrames X.base l := by
    intro l
    induction l with
    | nil => intro _ _; trivial
    | cons env r ih =>
      intro hs hl
      obtain ⟨hk, ⟨L, o, hf, hn, ho, hd⟩, hr⟩ := hl
      have hL : L ∈ X.fs := hs L (by unfold frs; rw [List.filterMap_cons, hf]; exact List.mem_cons_self)
      obtain ⟨sl, e⟩ := I.base.slot L o ho (I.ok.frf L hL) hL fun z => I.ok.exfs L z hL
      exact ⟨hk, ⟨L, _, hf, hn, e, hd⟩, ih (fun b hb => hs b (by unfold frs; rw [List.filterMap_cons, hf]; exact List.mem_cons_of_mem _ hb)) hr⟩
  exact all X.outer (fun _ hb => hb) I.ok.funs
/-- the frames that run, for a call -/
theorem Inv.stack (I : Inv X pins σ H s) : s.heap.FunFrames X.base X.stack := by
  rcases I.ok.stk with e | ⟨e, hf⟩
  · rw [e]; exact I.funs
  · rw [e]
    obtain ⟨m, hn, _⟩ := I.loc
    refine .cons (by rw [I.ok.kind]; decide) hf hn ?_ I.funs
    exact Heap.get?_none_of_le (Nat.le_trans I.ok.bsz I.ok.above)
theorem Inv.stkSub (I : Inv X pins σ H s) : ∀ b ∈ frs X.stack, b ∈ X.env.locals :: X.fs := fun b hb => by
  rcases I.ok.stk with e | ⟨e, hf⟩
  · rw [e] at hb; exact List.mem_cons_of_mem _ hb
  · rw [e] at hb
    unfold frs at hb
    rw [List.filterMap_cons, hf] at hb
    exact hb
theorem Inv.stkFree (I : Inv X pins σ H s) : ∀ b ∈ frs X.stack, H b = none := fun b hb => by
  rcases List.mem_cons.mp (I.stkSub b hb) with e | hb
  · rw [e]; exact I.free
  · obtain ⟨_, o, ho, _⟩ := I.ok.funs.mem hb
    exact I.base.free b o ho (I.ok.frf b hb) fun z => I.ok.exfs b z hb
/-- THE STEP: the untracked objects but the frame and the records at ch are kept (the callers' frames up to slots), the frame's map is kept, the new abstract heap is held -/
theorem Inv.step {g' : Array GenState} {t' : Nat} {d' : Drawn} {ch : List Addr} (I : Inv X pins σ H s)
    (hch : ∀ b ∈ ch, (b ∈ X.ex ∨ X.s₀.heap.objs.size ≤ b) ∧ b ≠ X.env.locals ∧ (∀ x c, X.env.cells.lookup x = some c → c ≠ b) ∧ ∀ p ∈ X.pn ++ pins, p.1 ≠ b)
    (keep : ∀ b o, b ≠ X.env.locals → b ∉ X.fs → b ∉ ch → s.heap.get? b = some o → H b = none → h'.get? b = some o)
    (slot : ∀ b o, b ≠ X.env.locals → b ∈ X.fs → b ∉ ch → s.heap.get? b = some o → H b = none → ∃ sl, h'.get? b = some { o with slots := sl }) (free : ∀ b o, b ∉ ch → s.heap.get? b = some o → H b = none → H' b = none)
    (there : ∀ b o, b ∉ ch → s.heap.get? b = some o → ∃ o', h'.get? b = some o')
    (tups : ∀ b xs, H b = some (.tup xs) → H' b = some (.tup xs)) (frzs : ∀ b o u, H b = some (.frz o u) → H' b = some (.frz o u)) (tbls : ∀ b ps, H b = some (.tbl ps) → ∃ more, H' b = some (.tbl (ps ++ more)))
    (ns : ∀ m, s.heap.Ns X.env.locals m → h'.Ns X.env.locals m) (hok : HOk X.prog X.w H' h') (hg : AllBare g') :
    Inv X pins σ H' { s with heap := h', gens := g', drawn := d', toks := t' } := by
  have neL : ∀ b o, X.s₀.heap.get? b = some o → b ≠ X.env.locals := fun b o e => Nat.ne_of_lt (Nat.lt_of_lt_of_le (Heap.lt_size e) I.ok.above)
  have neC : ∀ b o, X.s₀.heap.get? b = some o → b ∉ X.ex → b ∉ ch := fun b o e hx hb => by
    rcases (hch b hb).1 with z | z
    · exact hx z
    · exact absurd (Nat.lt_of_lt_of_le (Heap.lt_size e) z) (Nat.lt_irrefl _)
  have cellK : ∀ x c, X.env.cells.lookup x = some c → ∀ v, s.heap.IsCell c v → h'.IsCell c v := fun x c e v ⟨o, ho, hd⟩ => by
    have nch : c ∉ ch := fun z => (hch c z).2.2.1 x c e rfl
    by_cases hc : c ∈ X.fs
    · obtain ⟨sl, q⟩ := slot c o (I.cne x c e) hc nch ho (I.freeC x c e)
      exact ⟨_, q, hd⟩
    · exact ⟨o, keep c o (I.cne x c e) hc nch ho (I.freeC x c e), hd⟩
  refine ⟨I.ok, I.os, hg, ⟨fun b o e n hb hx => ?_, fun b o e n hb hx => ?_, fun b o e n hx => ?_, fun b o e hx => ?_, fun b xs e => tups b xs (I.base.tups b xs e), fun b o xs e => frzs b o xs (I.base.frzs b o xs e), fun b ps e => ?_⟩, ?_, fun x c e => ?_, ?_, fun x c e => ?_, fun p hp => ?_, hok, I.len⟩
  · exact keep b o (neL b o e) hb (neC b o e hx) (I.base.keep b o e n hb hx) (I.base.free b o e n hx)
  · obtain ⟨sl, e1⟩ := I.base.slot b o e n hb hx
    obtain ⟨sl', e2⟩ := slot b _ (neL b o e) hb (neC b o e hx) e1 (I.base.free b o e n hx)
    exact ⟨sl', e2⟩
  · obtain ⟨o', e1⟩ := I.base.there b o e hx
    exact free b o' (neC b o e hx) e1 (I.base.free b o e n hx)
  · obtain ⟨o', e1⟩ := I.base.there b o e hx
    exact there b o' (neC b o e hx) e1
  · obtain ⟨m1, e1⟩ := I.base.tbls b ps e
    obtain ⟨m2, e2⟩ := tbls b _ e1
    exact ⟨m1 ++ m2, by rw [e2, Array.append_assoc]⟩
  · obtain ⟨m, hn, hl⟩ := I.loc
    refine ⟨m, ns m hn, fun i x v e1 e2 e3 => ?_⟩
    obtain ⟨u, r, l⟩ := hl i x v e1 e2 e3
    refine ⟨u, r, ?_⟩
    rcases l with l | ⟨k, c, e, z⟩
    · exact .inl l
    · exact .inr ⟨k, c, e, cellK x c e _ z⟩
  · obtain ⟨v, z⟩ := I.cell x c e
    exact ⟨v, cellK x c e v z⟩
  · obtain ⟨m, ⟨o, _, _, ho, _⟩, _⟩ := I.loc
    exact free _ o (fun z => (hch _ z).2.1 rfl) ho I.free
  · obtain ⟨v, o, ho, hd⟩ := I.cell x c e
    exact free c o (fun z => (hch c z).2.2.1 x c e rfl) ho (I.freeC x c e)
  · obtain ⟨e, n, ne, nf, d⟩ := I.pin p hp
    have nch : p.1 ∉ ch := fun z => (hch p.1 z).2.2.2 p hp rfl
    exact ⟨keep p.1 p.2 ne nf nch e n, free p.1 p.2 nch e n, ne, nf, d⟩
/-- .. where the frame's own object is kept too -/
theorem Inv.un {t' : Nat} (I : Inv X pins σ H s) (u : Un X.fs [] H H' s.heap h') (hok : HOk X.prog X.w H' h') : Inv X pins σ H' { s with heap := h', toks := t' } := by
  obtain ⟨m, ⟨o, es, ep, ho, r⟩, _⟩ := id I.loc
  obtain ⟨sl, hL⟩ := u.any ho I.free (by simp)
  exact I.step (g' := s.gens) (d' := s.drawn) (ch := []) (fun _ z => nomatch z) (fun b o _ hb _ e n => u.keep b o e n hb (by simp)) (fun b o _ hb _ e n => u.slot b o e n hb (by simp)) (fun b o _ e n => u.free b o e n (by simp)) (fun b o _ e => u.there b o e (by simp)) u.tups u.frzs u.tbls (fun m' hm => by
    obtain ⟨o', es', ep', ho', r'⟩ := hm
    rw [ho] at ho'; cases ho'
    exact ⟨_, es', ep', hL, r'⟩) hok I.bare
/-- behind a call (or a comprehension's block): the slots of this frame may have changed too, the records at ch may have turned -/
theorem Inv.call {g' : Array GenState} {t' : Nat} {d' : Drawn} {ch : List Addr} (I : Inv X pins σ H s) (u : Un (frs X.stack) ch H H' s.heap h') (hok : HOk X.prog X.w H' h') (hg : AllBare g')
    (hch : ∀ b ∈ ch, (b ∈ X.ex ∨ X.s₀.heap.objs.size ≤ b) ∧ b ≠ X.env.locals ∧ (∀ x c, X.env.cells.lookup x = some c → c ≠ b) ∧ ∀ p ∈ X.pn ++ pins, p.1 ≠ b) :
    Inv X pins σ H' { s with heap := h', gens := g', drawn := d', toks := t' } := by
  obtain ⟨m, ⟨o, es, ep, ho, r⟩, _⟩ := id I.loc
  obtain ⟨sl, hL⟩ := u.any ho I.free fun z => (hch _ z).2.1 rfl
  exact I.step (ch := ch) hch (fun b o hL hb hc e n => u.keep b o e n (fun z => (List.mem_cons.mp (I.stkSub b z)).elim hL hb) hc) (fun b o _ _ hc e n => u.any e n hc) (fun b o hc e n => u.free b o e n hc) (fun b o hc e => u.there b o e hc) u.tups u.frzs u.tbls (fun m' hm => by
    obtain ⟨o', es', ep', ho', r'⟩ := hm
    rw [ho] at ho'; cases ho'
    exact ⟨_, es', ep', hL, r'⟩) hok hg
/-- an untracked record of ours (an iterator) has turned -/
theorem Inv.turned {t' : Nat} {it : Addr} (I : Inv X pins σ H s) (k : ∀ b o, b ≠ it → s.heap.get? b = some o → h'.get? b = some o) (hn : H it = none) (hL : it ≠ X.env.locals)
    (h1 : it ∈ X.ex ∨ X.s₀.heap.objs.size ≤ it) (h2 : ∀ x c, X.env.cells.lookup x = some c → c ≠ it) (h3 : ∀ p ∈ X.pn ++ pins, p.1 ≠ it) : Inv X pins σ H { s with heap := h', toks := t' } := by
  have nit : ∀ b u, H b = some u → b ≠ it := fun b u e z => by rw [z, hn] at e; cases e
  refine I.step (g' := s.gens) (d' := s.drawn) (ch := [it]) (fun b hb => ?_) (fun b o _ _ hc e _ => k b o (fun z => hc (by simp [z])) e) (fun b o _ _ hc e _ => ⟨o.slots, k b o (fun z => hc (by simp [z])) e⟩) (fun _ _ _ _ n => n)
    (fun b o hc e => ⟨o, k b o (fun z => hc (by simp [z])) e⟩) (fun _ _ e => e) (fun _ _ _ e => e) (fun b ps e => ⟨#[], by rw [e]; simp⟩) (fun m hm => ?_) (fun b u e => ?_) I.bare
  · have e : b = it := by simpa using hb
    subst e
    exact ⟨h1, hL, h2, h3⟩
  · obtain ⟨o, es, ep, ho, r⟩ := hm
    exact ⟨o, es, ep, k _ o (Ne.symm hL) ho, r⟩
  · refine (I.hok b u e).stay (fun c v hc q => k c v ?_ q) (fun _ q => q) fun _ _ q => q
    rcases hc with z | z
    · rw [z]; exact nit b u e
    · exact nit c _ z
theorem Inv.tok (I : Inv X pins σ H s) (t : Nat) : Inv X pins σ H { s with toks := t } := I.un (h' := s.heap) (t' := t) Un.refl I.hok
/-- all objects kept -/
theorem Inv.kept {t' : Nat} (I : Inv X pins σ H s) (k : ∀ b u, s.heap.get? b = some u → h'.get? b = some u) : Inv X pins σ H { s with heap := h', toks := t' } := I.un (Un.kept k) (I.hok.kept k)
/-- a new object laid and tracked -/
theorem Inv.laid {a : Addr} {o : HO} {t' : Nat} (I : Inv X pins σ H s) (k : ∀ b u, s.heap.get? b = some u → h'.get? b = some u) (hp : s.heap.objs.size ≤ a) (new : ObjOk X.prog X.w (upd H a o) h' a o) :
    Inv X pins σ (upd H a o) { s with heap := h', toks := t' } := I.un (Un.laid k hp (I.hok.fresh hp)) (I.hok.laid k hp new)
/-- an object written -/
theorem Inv.write {x e : Addr} {o : HO} {t' : Nat} (I : Inv X pins σ H s) (mu : Mut (H x)) (he : e = x ∨ H e = some (.own x)) (k : ∀ b u, b ≠ e → s.heap.get? b = some u → h'.get? b = some u) (heo : ∃ u, h'.get? e = some u)
    (new : ObjOk X.prog X.w (upd H x o) h' x o) : Inv X pins σ (upd H x o) { s with heap := h', toks := t' } := I.un (Un.write mu he k heo) (I.hok.write mu he k heo new)
theorem Inv.pins_of {pins' : List (Addr × Obj)} (I : Inv X pins σ H s) (h : ∀ p ∈ pins', s.heap.get? p.1 = some p.2 ∧ H p.1 = none ∧ p.1 ≠ X.env.locals ∧ p.1 ∉ X.fs ∧ ∀ v, p.2.data ≠ .cell v) : Inv X pins' σ H s :=
  ⟨I.ok, I.os, I.bare, I.base, I.loc, I.cell, I.free, I.freeC, fun p hp => (List.mem_append.mp hp).elim (fun z => I.pin p (List.mem_append_left _ z)) (h p), I.hok, I.len⟩
theorem nodup_ix {N : List Str} (hN : N.Nodup) {i j : Nat} {x : Str} (a : N[i]? = some x) (b : N[j]? = some x) : i = j := by
  obtain ⟨h1, e1⟩ := List.getElem?_eq_some_iff.mp a
  obtain ⟨h2, e2⟩ := List.getElem?_eq_some_iff.mp b
  exact (List.getElem_inj hN).mp (e1.trans e2.symm)
/-- a name is stored; what changed -/
theorem store_ok2 {M : Model} {A : Around} {E : Value → Shared → Prop} {i : Nat} {x : Str} {v : V} {u : Value} {Q : Unit → Shared → Prop} (I : Inv X pins σ H s) (hN : X.N.Nodup) (hi : X.N[i]? = some x) (hx : Loc X.env.scope x) (r : RelV v u)
    (h : ∀ s', Inv X pins (σ.set i (some v)) H s' → (∃ a, Heap.SameBut a s.heap s'.heap ∧ (a = X.env.locals ∨ X.env.cells.lookup x = some a)) → Q () s') (hf : X.fn x = true ∨ X.env.scope.names.lookup x = some .local := by first | exact .inl rfl | exact .inr rfl | assumption) : wpAny M A (storeName X.env x u) Q E s := by
  obtain ⟨m, hn, hl⟩ := id I.loc
  have hcls : (X.env.scope.kind == .class || (X.env.scope.kind == .module && X.env.locals != X.env.globals)) = false := by rw [I.ok.kind]; rfl
  have hiσ : i < σ.length := by rw [I.len]; exact (List.getElem?_eq_some_iff.mp hi).1
  have cne := I.cne
  have tracked : ∀ {a : Addr} {h' : Heap}, (∃ o, s.heap.get? a = some o ∧ H a = none) → Heap.SameBut a s.heap h' → HOk X.prog X.w H h' := fun {a h'} ha hs b ob e => by
    obtain ⟨_, _, hfree⟩ := ha
    refine (I.hok b ob e).stay (fun c w' hc q => (hs.2 c ?_).trans q) (fun _ q => q) fun _ _ q => q
    rintro rfl
    rcases hc with rfl | hc
    · rw [hfree] at e; cases e
    · rw [hfree] at hc; cases hc
  rcases hx with hk | hk
  · refine wpAny_storeName_local hk hn (fun h' hn' hs => ?_) hcls
    obtain ⟨oL, _, _, hoL, _⟩ := id hn
    refine h _ ⟨I.ok, I.os, I.bare, ⟨fun b o e n hb hx => ?_, fun b o e n hb hx => ?_, I.base.free, fun b o e hx => ?_, I.base.tups, I.base.frzs, I.base.tbls⟩, ⟨_, hn', fun j y v' e1 e2 e3 => ?_⟩, fun y c e => ?_, I.free, I.freeC, fun p hp => ?_, tracked ⟨oL, hoL, I.free⟩ hs, by simpa using I.len⟩ ⟨_, hs, .inl rfl⟩
    · exact (hs.2 b (Nat.ne_of_lt (Nat.lt_of_lt_of_le (Heap.lt_size e) I.ok.above))).trans (I.base.keep b o e n hb hx)
    · obtain ⟨sl, e1⟩ := I.base.slot b o e n hb hx
      exact ⟨sl, (hs.2 b (Nat.ne_of_lt (Nat.lt_of_lt_of_le (Heap.lt_size e) I.ok.above))).trans e1⟩
    · obtain ⟨o', e1⟩ := I.base.there b o e hx
      exact ⟨o', (hs.2 b (Nat.ne_of_lt (Nat.lt_of_lt_of_le (Heap.lt_size e) I.ok.above))).trans e1⟩
    · by_cases hj : j = i
      · subst hj
        rw [hi] at e1; cases e1
        rw [List.getElem?_set_self hiσ] at e2
        cases e2
        exact ⟨u, r, .inl ⟨hk, by simp⟩⟩
      · rw [List.getElem?_set_ne (Ne.symm hj)] at e2
        obtain ⟨u', r', q⟩ := hl j y v' e1 e2 e3
        refine ⟨u', r', ?_⟩
        rcases q with ⟨k, e⟩ | ⟨k, c, e, z⟩
        · refine .inl ⟨k, ?_⟩
          have : y ≠ x := fun e => hj (nodup_ix hN e1 (e ▸ hi))
          simp [this, e]
        · exact .inr ⟨k, c, e, z.sameBut hs (cne y c e)⟩
    · obtain ⟨w', z⟩ := I.cell y c e
      exact ⟨w', z.sameBut hs (cne y c e)⟩
    · obtain ⟨e, n, ne, nf, d⟩ := I.pin p hp
      exact ⟨(hs.2 p.1 ne).trans e, n, ne, nf, d⟩
  · have hfn : X.fn x = true := by
      rcases hf with z | z
      · exact z
      · rw [z] at hk; cases hk
    obtain ⟨c, hc⟩ := I.ok.has x (.inl hk)
    obtain ⟨w', z⟩ := I.cell x c hc
    refine wpAny_storeName_cell I.ok.kind hk hc z (fun h' hc' hs => ?_)
    obtain ⟨oc, hoc, hocd⟩ := id z
    refine h { s with heap := h' } ⟨I.ok, I.os, I.bare, ⟨fun b o e n hb hx => ?_, fun b o e n hb hx => ?_, I.base.free, fun b o e hx => ?_, I.base.tups, I.base.frzs, I.base.tbls⟩, ⟨m, hn.sameBut hs (Ne.symm (cne x c hc)), fun j y v' e1 e2 e3 => ?_⟩, fun y c' e => ?_, I.free, I.freeC, fun p hp => ?_, tracked ⟨oc, hoc, I.freeC x c hc⟩ hs, by simpa using I.len⟩ ⟨c, hs, .inr hc⟩
    · exact (hs.2 b (Nat.ne_of_lt (Nat.lt_of_lt_of_le (Heap.lt_size e) (I.ok.cab x c hfn hc)))).trans (I.base.keep b o e n hb hx)
    · obtain ⟨sl, e1⟩ := I.base.slot b o e n hb hx
      exact ⟨sl, (hs.2 b (Nat.ne_of_lt (Nat.lt_of_lt_of_le (Heap.lt_size e) (I.ok.cab x c hfn hc)))).trans e1⟩
    · obtain ⟨o', e1⟩ := I.base.there b o e hx
      exact ⟨o', (hs.2 b (Nat.ne_of_lt (Nat.lt_of_lt_of_le (Heap.lt_size e) (I.ok.cab x c hfn hc)))).trans e1⟩
    · by_cases hj : j = i
      · subst hj
        rw [hi] at e1; cases e1
        rw [List.getElem?_set_self hiσ] at e2
        cases e2
        exact ⟨u, r, .inr ⟨.inl hk, c, hc, hc'⟩⟩
      · rw [List.getElem?_set_ne (Ne.symm hj)] at e2
        obtain ⟨u', r', q⟩ := hl j y v' e1 e2 e3
        refine ⟨u', r', ?_⟩
        rcases q with q | ⟨k, c', e, z'⟩
        · exact .inl q
        · refine .inr ⟨k, c', e, z'.sameBut hs ?_⟩
          rintro rfl
          exact hj (nodup_ix hN e1 (I.ok.inj _ _ _ e hc ▸ hi))
    · by_cases hcc : c' = c
      · subst hcc; exact ⟨_, hc'⟩
      · obtain ⟨w2, z2⟩ := I.cell y c' e
        exact ⟨w2, z2.sameBut hs hcc⟩
    · obtain ⟨e, n, ne, nf, d⟩ := I.pin p hp
      refine ⟨(hs.2 p.1 ?_).trans e, n, ne, nf, d⟩
      intro q
      rw [q, hoc] at e
      have q' : oc = p.2 := Option.some.inj e
      exact d w' (by rw [← q']; exact hocd)
theorem store_ok {M : Model} {A : Around} {E : Value → Shared → Prop} {i : Nat} {x : Str} {v : V} {u : Value} {Q : Unit → Shared → Prop} (I : Inv X pins σ H s) (hN : X.N.Nodup) (hi : X.N[i]? = some x) (hx : Loc X.env.scope x) (r : RelV v u)
    (h : ∀ s', Inv X pins (σ.set i (some v)) H s' → Q () s') (hf : X.fn x = true ∨ X.env.scope.names.lookup x = some .local := by first | exact .inl rfl | exact .inr rfl | assumption) : wpAny M A (storeName X.env x u) Q E s :=
  store_ok2 I hN hi hx r (fun s' I' _ => h s' I') hf
/-- behind a call or a block, the state as it is -/
theorem Inv.call' {s' : Shared} {ch : List Addr} (I : Inv X pins σ H s) (ho : s'.os = s.os) (u : Un (frs X.stack) ch H H' s.heap s'.heap) (hok : HOk X.prog X.w H' s'.heap) (hg : AllBare s'.gens)
    (hch : ∀ b ∈ ch, (b ∈ X.ex ∨ X.s₀.heap.objs.size ≤ b) ∧ b ≠ X.env.locals ∧ (∀ x c, X.env.cells.lookup x = some c → c ≠ b) ∧ ∀ p ∈ X.pn ++ pins, p.1 ≠ b) : Inv X pins σ H' s' := by
  obtain ⟨h', g', d', t', o'⟩ := s'
  have e : o' = s.os := ho
  subst e
  exact I.call (g' := g') (t' := t') (d' := d') u hok hg hch
end
/-! ### the judgements -/
/-- an exception: its class, its own dict's address (where it has one), the abstract heap behind it -/
abbrev XK := Value → Option Addr → Hp → Prop
abbrev St := List (Option V)
abbrev VK := V → Hp → Prop
/-- an expression's reading; a test's; an argument list's -/
abbrev TE := St → Hp → VK → Prop
abbrev TT := St → Hp → (Bool → Hp → Prop) → Prop
abbrev TA := St → Hp → (List V → Hp → Prop) → Prop
/-- what is wanted behind a statement -/
structure Ends where
  nx : St → Hp → Prop
  rt : VK
  bk : St → Hp → Prop := fun _ _ => False
  ct : St → Hp → Prop := fun _ _ => False
abbrev TS := Ends → St → Hp → Prop
def EP (X : Cx) (pins : List (Addr × Obj)) (σ : St) (Q : VK) (u : Value) (s' : Shared) : Prop := ∃ v H', Inv X pins σ H' s' ∧ RelV v u ∧ Q v H'
def TP (X : Cx) (pins : List (Addr × Obj)) (σ : St) (Q : Bool → Hp → Prop) (b : Bool) (s' : Shared) : Prop := ∃ H', Inv X pins σ H' s' ∧ Q b H'
def AP (X : Cx) (pins : List (Addr × Obj)) (σ : St) (Q : List V → Hp → Prop) (us : List Value) (s' : Shared) : Prop := ∃ vs H', Inv X pins σ H' s' ∧ Vals vs us ∧ Q vs H'
def SP (X : Cx) (pins : List (Addr × Obj)) (D : Ends) (f : Flow) (s' : Shared) : Prop :=
  match f with
  | .next => ∃ σ' H', Inv X pins σ' H' s' ∧ D.nx σ' H'
  | .brk => ∃ σ' H', Inv X pins σ' H' s' ∧ D.bk σ' H'
  | .cont => ∃ σ' H', Inv X pins σ' H' s' ∧ D.ct σ' H'
  | .ret u => ∃ v σ' H', Inv X pins σ' H' s' ∧ RelV v u ∧ D.rt v H'
def PE (X : Cx) (e : Expr) (t : TE) : Prop :=
  ∀ (pins : List (Addr × Obj)) (s : Shared) (σ : St) (H : Hp) (Q : VK), Inv X pins σ H s → t σ H Q → wpAny (model X.prog X.w) X.A (eval e X.env) (EP X pins σ Q) X.xe s
def PT (X : Cx) (e : Expr) (t : TT) : Prop :=
  ∀ (pins : List (Addr × Obj)) (s : Shared) (σ : St) (H : Hp) (Q : Bool → Hp → Prop), Inv X pins σ H s → t σ H Q → wpAny (model X.prog X.w) X.A (isTrue e X.env (eval e X.env)) (TP X pins σ Q) X.xe s
/-- a test whatever its 'whole' is (and, or) -/
def PW (X : Cx) (e : Expr) (t : TT) : Prop :=
  ∀ (whole : Sem Value) (pins : List (Addr × Obj)) (s : Shared) (σ : St) (H : Hp) (Q : Bool → Hp → Prop), Inv X pins σ H s → t σ H Q → wpAny (model X.prog X.w) X.A (isTrue e X.env whole) (TP X pins σ Q) X.xe s
theorem PW.pt {X : Cx} {e : Expr} {t : TT} (h : PW X e t) : PT X e t := h _
/-- an argument list (no star), from the left -/
def PA (X : Cx) (es : List Expr) (t : TA) : Prop :=
  ∀ (pos : Pos) (pins : List (Addr × Obj)) (s : Shared) (σ : St) (H : Hp) (Q : List V → Hp → Prop), Inv X pins σ H s → t σ H Q → wpAny (model X.prog X.w) X.A (spliced (backTo pos (starEach es X.env))) (AP X pins σ Q) X.xe s
def PS (X : Cx) (st : Stmt) (t : TS) : Prop :=
  ∀ (pins : List (Addr × Obj)) (s : Shared) (σ : St) (H : Hp) (D : Ends), Inv X pins σ H s → t D σ H → wpAny (model X.prog X.w) X.A (exec st X.env) (SP X pins D) X.xe s
def PSs (X : Cx) (st : List Stmt) (t : TS) : Prop :=
  ∀ (pins : List (Addr × Obj)) (s : Shared) (σ : St) (H : Hp) (D : Ends), Inv X pins σ H s → t D σ H → wpAny (model X.prog X.w) X.A (execs st X.env) (SP X pins D) X.xe s
/-- weaken the end -/
theorem thn {α : Type} {t : Sem α} {Q Q' : α → Shared → Prop} {M : Model} {A : Around} {E : Value → Shared → Prop} {s : Shared} (h : wpAny M A t Q E s) (hQ : ∀ a s, Q a s → Q' a s) : wpAny M A t Q' E s := wpAny_mono h hQ fun _ _ x => x
end L2
namespace L2
open PySem PySem.Spec PyProof.Rows
section
variable {X : Cx}
/-! ### names and constants -/
def tVar (i : Nat) : TE := fun σ H Q => ∃ v, σ[i]? = some (some v) ∧ Q v H
def tC (v : V) : TE := fun _ H Q => Q v H
theorem pe_var {i : Nat} {x : Str} {pos : Pos} (hN : X.N[i]? = some x) (hv : Vis X.env.scope x) (hd : (x == ("__debug__" : Str)) = false := by decide) (hcd : (x == ("__classdict__" : Str)) = false := by decide) : PE X (.Name x pos) (tVar i) := by
  intro pins s σ H Q I h
  obtain ⟨v, e, h⟩ := h
  obtain ⟨m, hn, hl⟩ := I.loc
  obtain ⟨u, r, l⟩ := hl i x v hN e hv
  have fin : EP X pins σ Q u s := ⟨v, H, I, r, h⟩
  rcases l with ⟨hk, hm⟩ | ⟨hk, c, hc, hcell⟩
  · exact wpAny_Name (wpAny_loadName_local I.ok.kind hk hn hm fin) hd
  · rcases hk with hk | hk
    · exact wpAny_Name (wpAny_loadName_cell I.ok.kind hk hc hcell fin) hd
    · exact wpAny_Name (wpAny_loadName_free I.ok.kind hk hc hcell fin hcd) hd
theorem pe_int {i j pos} : PE X (.Constant (.int i) j pos) (tC (.int i)) := fun _ _ _ H _ I h => wpAny_Constant_int ⟨.int i, H, I.tok _, ⟨_, rfl⟩, h⟩
theorem pe_bl {b j pos} : PE X (.Constant (.bool b) j pos) (tC (.bl b)) := fun _ _ _ H _ I h => Constant_bool ⟨.bl b, H, I, rfl, h⟩
theorem pe_non {j pos} : PE X (.Constant .none j pos) (tC .non) := fun _ _ _ H _ I h => Constant_none ⟨.non, H, I, rfl, h⟩
theorem pe_str {x j pos} : PE X (.Constant (.str x) j pos) (tC (.str x)) := fun _ _ _ H _ I h => Calls.Constant_str ⟨.str x, H, I.tok _, ⟨_, rfl⟩, h⟩
/-- a global name of the def -/
def Gl (X : Cx) (x : Str) : Prop := X.env.kindOf x = some .globalImplicit
theorem ld_glob {E : Value → Shared → Prop} {pins : List (Addr × Obj)} {s : Shared} {σ : St} {H : Hp} {x : Str} {u : Value} {pos : Pos} {Q : Value → Shared → Prop} (I : Inv X pins σ H s) (hg : Gl X x) (hm : X.mg x = some u) (h : Q u s)
    (hd : (x == ("__debug__" : Str)) = false := by decide) : wpAny (model X.prog X.w) X.A (eval (.Name x pos) X.env) Q E s :=
  Calls.Name_function_global I.ok.kind hg (Calls.loadGlobal_global (by rw [I.ok.glob]; exact I.mod.glob.keeps I.bk) hm h) hd
theorem ld_blt {E : Value → Shared → Prop} {pins : List (Addr × Obj)} {s : Shared} {σ : St} {H : Hp} {x : Str} {u : Value} {pos : Pos} {Q : Value → Shared → Prop} (I : Inv X pins σ H s) (hg : Gl X x) (hm : X.mg x = none) (hv : bootBuiltins x = some u) (h : Q u s)
    (hn : x ≠ "__name__" := by decide) (hd : (x == ("__debug__" : Str)) = false := by decide) : wpAny (model X.prog X.w) X.A (eval (.Name x pos) X.env) Q E s := by
  obtain ⟨mb, h1, h2⟩ := I.mod.blt
  exact Calls.Name_function_global I.ok.kind hg (Calls.loadGlobal_builtin (by rw [I.ok.glob]; exact I.mod.glob.keeps I.bk) hm (by rw [I.ok.blt]; exact h1.keeps I.bk) ((h2 x hn).trans hv) h) hd
/-- a module's constant, a class, a function, as a value -/
theorem pe_glob {x : Str} {v : V} {u : Value} {pos : Pos} (hg : Gl X x) (hm : X.mg x = some u) (r : RelV v u) (hd : (x == ("__debug__" : Str)) = false := by decide) : PE X (.Name x pos) (tC v) :=
  fun _ _ _ H _ I h => ld_glob I hg hm ⟨v, H, I, r, h⟩ hd
theorem pe_bltn {x : Str} {v : V} {u : Value} {pos : Pos} (hg : Gl X x) (hm : X.mg x = none) (hv : bootBuiltins x = some u) (r : RelV v u) (hn : x ≠ "__name__" := by decide) (hd : (x == ("__debug__" : Str)) = false := by decide) : PE X (.Name x pos) (tC v) :=
  fun _ _ _ H _ I h => ld_blt I hg hm hv ⟨v, H, I, r, h⟩ hn hd
variable {a b : Expr} {ta tb : TE} {pos : Pos}
/-- a comparison as a value, as a test -/
def tB (t : TE) : TT := fun σ H Q => t σ H fun x H1 => ∃ c, x = .bl c ∧ Q c H1
/-- an expression whose value is a bool, as a test -/
theorem pt_val {e : Expr} {t : TE} (h : PE X e t) (he : ∀ whole, isTrue e X.env whole = (do let v ← whole; standAt e.pos; holding [v] (truthy v)) := by intro _; rfl) : PT X e (tB t) := by
  intro pins s σ H Q I hw
  refine isTrue_plain (thn (h pins s σ H _ I hw) fun v s1 ⟨x, H1, I1, r1, q1⟩ => ?_) (he _)
  obtain ⟨d, rfl, q⟩ := q1
  cases r1
  exact wpAny_truthy_bool ⟨H1, I1, q⟩
/-! ### and, or, not -/
variable {tA tB' : TT} {rest : List Expr}
def tAnd (t u : TT) : TT := fun σ H Q => t σ H fun c H1 => if c = true then u σ H1 Q else Q false H1
def tOr (t u : TT) : TT := fun σ H Q => t σ H fun c H1 => if c = true then Q true H1 else u σ H1 Q
def tNot (t : TT) : TT := fun σ H Q => t σ H fun c H1 => Q (!c) H1
theorem pw_and1 (ha : PT X a tA) : PW X (.BoolOp .And [a] pos) tA := by
  intro wh pins s σ H Q I h
  refine isTrue_and (thn (ha pins s σ H Q I h) fun c s1 e => ?_)
  cases c with
  | true => exact isTrue_and_nil e
  | false => exact e
theorem pw_or1 (ha : PT X a tA) : PW X (.BoolOp .Or [a] pos) tA := by
  intro wh pins s σ H Q I h
  refine isTrue_or (thn (ha pins s σ H Q I h) fun c s1 e => ?_)
  cases c with
  | false => exact isTrue_or_nil e
  | true => exact e
theorem pw_and (ha : PT X a tA) (hb : PW X (.BoolOp .And (b :: rest) pos) tB') : PW X (.BoolOp .And (a :: b :: rest) pos) (tAnd tA tB') := by
  intro wh pins s σ H Q I h
  refine isTrue_and (thn (ha pins s σ H _ I h) fun c s1 ⟨H1, I1, q1⟩ => ?_)
  cases c with
  | true => exact hb wh pins s1 σ H1 Q I1 q1
  | false => exact ⟨H1, I1, q1⟩
theorem pw_or (ha : PT X a tA) (hb : PW X (.BoolOp .Or (b :: rest) pos) tB') : PW X (.BoolOp .Or (a :: b :: rest) pos) (tOr tA tB') := by
  intro wh pins s σ H Q I h
  refine isTrue_or (thn (ha pins s σ H _ I h) fun c s1 ⟨H1, I1, q1⟩ => ?_)
  cases c with
  | true => exact ⟨H1, I1, q1⟩
  | false => exact hb wh pins s1 σ H1 Q I1 q1
theorem pt_not (ha : PT X a tA) : PT X (.UnaryOp .Not a pos) (tNot tA) := by
  intro pins s σ H Q I h
  exact isTrue_not (ha pins s σ H (fun c H1 => Q (!c) H1) I h)
/-- .. as values (bools) -/
def tAndV (ta tb : TE) : TE := fun σ H Q => ta σ H fun x H1 => ∃ c, x = .bl c ∧ if c = true then tb σ H1 Q else Q (.bl false) H1
def tOrV (ta tb : TE) : TE := fun σ H Q => ta σ H fun x H1 => ∃ c, x = .bl c ∧ if c = true then Q (.bl true) H1 else tb σ H1 Q
def tNotV (ta : TE) : TE := fun σ H Q => ta σ H fun x H1 => ∃ c, x = .bl c ∧ Q (.bl (!c)) H1
theorem pe_one {op} {t : TE} (h : PE X a t) : PE X (.BoolOp op [a] pos) t := fun pins s σ H Q I hw => BoolOp_one (h pins s σ H Q I hw)
theorem pe_and (ha : PE X a ta) (hb : PE X (.BoolOp .And (b :: rest) pos) tb) : PE X (.BoolOp .And (a :: b :: rest) pos) (tAndV ta tb) := by
  intro pins s σ H Q I h
  refine BoolOp_and (thn (ha pins s σ H _ I h) fun v s1 ⟨x, H1, I1, r1, q1⟩ => ?_)
  obtain ⟨c, rfl, q1⟩ := q1
  cases r1
  refine wpAny_truthy_bool ?_
  cases c with
  | true => exact hb pins s1 σ H1 Q I1 q1
  | false => exact ⟨.bl false, H1, I1, rfl, q1⟩
theorem pe_not (ha : PE X a ta) : PE X (.UnaryOp .Not a pos) (tNotV ta) := by
  intro pins s σ H Q I h
  refine UnaryOp_ (thn (ha pins s σ H _ I h) fun v s1 ⟨x, H1, I1, r1, q1⟩ => ?_)
  obtain ⟨c, rfl, q1⟩ := q1
  cases r1
  exact not_of (wpAny_truthy_bool ⟨.bl (!c), H1, I1, rfl, q1⟩)
/-- a if t else b -/
def tIf (t : TT) (ta tb : TE) : TE := fun σ H Q => t σ H fun c H1 => if c = true then ta σ H1 Q else tb σ H1 Q
theorem pe_ifExp {c : Expr} (hc : PT X c tA) (ha : PE X a ta) (hb : PE X b tb) : PE X (.IfExp c a b pos) (tIf tA ta tb) := by
  intro pins s σ H Q I h
  refine wpAny_IfExp (thn (hc pins s σ H _ I h) fun d s1 ⟨H1, I1, q1⟩ => ?_)
  cases d with
  | true => exact ha pins s1 σ H1 Q I1 q1
  | false => exact hb pins s1 σ H1 Q I1 q1
end
end L2
namespace L2
open PySem PySem.Spec PyProof.Rows
/-! ### a list, a tuple that is read: tracked, frozen, or an object of the module -/
def SqL (K : PySem.W.Frag) (H : Hp) (a : Addr) (xs : List V) : Prop :=
  Rd H a (.lst xs) ∨
    ∃ (o : Obj) (its : Array Value) (n : Nat), K.lookup a = some o ∧ o.cls = .type "list" ∧ o.dict = none ∧ o.data = .seq its n ∧ its.size ≤ sizeLine ∧ Vals xs its.toList
def SqT (K : PySem.W.Frag) (H : Hp) (a : Addr) (xs : List V) : Prop :=
  Rd H a (.tup xs) ∨
    ∃ (o : Obj) (its : Array Value) (n : Nat), K.lookup a = some o ∧ o.cls = .type "tuple" ∧ o.data = .seq its n ∧ its.size ≤ sizeLine ∧ Vals xs its.toList
def absV : Value → Option V
  | .none => some .non
  | .bool b => some (.bl b)
  | .int i _ => some (.int i)
  | .str x _ => some (.str x)
  | .bytes b _ => some (.byt b)
  | .float b _ => some (.flt b)
  | .ref a => some (.ref a)
  | .type n => some (.ty n)
  | _ => none
theorem RelV.abs {x : V} {u : Value} (r : RelV x u) : absV u = some x := by
  cases x with
  | non => cases r; rfl
  | bl _ => cases r; rfl
  | int _ => obtain ⟨t, rfl⟩ := r; rfl
  | str _ => obtain ⟨t, rfl⟩ := r; rfl
  | byt _ => obtain ⟨t, rfl⟩ := r; rfl
  | flt _ => obtain ⟨t, rfl⟩ := r; rfl
  | ref _ => cases r; rfl
  | ty _ => cases r; rfl
theorem RelV.inj {x y : V} {u : Value} (r : RelV x u) (q : RelV y u) : x = y := Option.some.inj (r.abs.symm.trans q.abs)
theorem Vals.inj : ∀ {xs ys : List V} {us : List Value}, Vals xs us → Vals ys us → xs = ys
  | _, _, _, .nil, .nil => rfl
  | _, _, _, .cons r t, .cons r' t' => by rw [r.inj r', Vals.inj t t']
section
variable {X : Cx} {pins : List (Addr × Obj)} {σ : St} {H : Hp} {s : Shared} {a : Addr} {xs ys : List V}
theorem SqL.of {K : PySem.W.Frag} (h : H a = some (.lst xs)) : SqL K H a xs := .inl (.inl h)
theorem SqT.of {K : PySem.W.Frag} (h : H a = some (.tup xs)) : SqT K H a xs := .inl (.inl h)
theorem Inv.list (I : Inv X pins σ H s) (h : SqL X.K H a xs) : ∃ its : List Value, Vals xs its ∧ PlainL s.heap a its.toArray ∧ xs.length ≤ sizeLine := by
  rcases h with h | ⟨o, its, n, hk, hc, hd, hs, hz, r⟩
  · obtain ⟨z, its, n, r, e⟩ := h.ok I.hok
    exact ⟨its, r, ⟨_, n, e, rfl, rfl, rfl⟩, z⟩
  · refine ⟨its.toList, r, ⟨o, n, I.kIn a o hk, hc, hd, by simpa using hs⟩, ?_⟩
    have e := r.length
    simp only [Array.length_toList] at e
    omega
theorem Inv.tuple (I : Inv X pins σ H s) (h : SqT X.K H a xs) : ∃ its : List Value, Vals xs its ∧ IsTup s.heap a its.toArray ∧ xs.length ≤ sizeLine := by
  rcases h with h | ⟨o, its, n, hk, hc, hs, hz, r⟩
  · obtain ⟨z, its, r, p⟩ := h.ok I.hok
    exact ⟨its, r, p, z⟩
  · refine ⟨its.toList, r, ⟨o, I.kIn a o hk, hc, n, by simpa using hs⟩, ?_⟩
    have e := r.length
    simp only [Array.length_toList] at e
    omega
theorem Inv.list_inj (I : Inv X pins σ H s) (h : SqL X.K H a xs) (h' : SqL X.K H a ys) : xs = ys := by
  obtain ⟨its, r, ⟨o, n, e, _, _, d⟩, _⟩ := I.list h
  obtain ⟨its', r', ⟨o', n', e', _, _, d'⟩, _⟩ := I.list h'
  rw [e] at e'; cases e'
  rw [d] at d'
  injection d' with d1 _
  have : its = its' := by simpa using congrArg Array.toList d1
  subst this
  exact r.inj r'
theorem Inv.tuple_inj (I : Inv X pins σ H s) (h : SqT X.K H a xs) (h' : SqT X.K H a ys) : xs = ys := by
  obtain ⟨its, r, ⟨o, e, _, n, d⟩, _⟩ := I.tuple h
  obtain ⟨its', r', ⟨o', e', _, n', d'⟩, _⟩ := I.tuple h'
  rw [e] at e'; cases e'
  rw [d] at d'
  injection d' with d1 _
  have : its = its' := by simpa using congrArg Array.toList d1
  subst this
  exact r.inj r'
end
/-! ### another wish about exceptions -/
abbrev Cx.wish (X : Cx) (E : Value → Shared → Prop) : Cx := { X with xe := E }
/-- no exception leaves -/
abbrev Cx.nox (X : Cx) : Cx := X.wish fun _ _ => False
theorem Cx.Ok.wish {X : Cx} (ok : X.Ok) (E : Value → Shared → Prop) : (X.wish E).Ok :=
  ⟨ok.mod, ok.kind, ok.glob, ok.blt, ok.above, ok.inj, ok.has, ok.cab, ok.hd, ok.frames, ok.stk, ok.exf, ok.bs, ok.bsz, ok.noex, ok.exfs, ok.funs, ok.frf⟩
theorem Cx.Ok.unwish {X : Cx} {E : Value → Shared → Prop} (ok : (X.wish E).Ok) : X.Ok :=
  ⟨ok.mod, ok.kind, ok.glob, ok.blt, ok.above, ok.inj, ok.has, ok.cab, ok.hd, ok.frames, ok.stk, ok.exf, ok.bs, ok.bsz, ok.noex, ok.exfs, ok.funs, ok.frf⟩
section
variable {X : Cx} {pins : List (Addr × Obj)} {σ : St} {H : Hp} {s : Shared} {E : Value → Shared → Prop}
theorem Inv.wish (I : Inv X pins σ H s) (E : Value → Shared → Prop) : Inv (X.wish E) pins σ H s := ⟨I.ok.wish E, I.os, I.bare, I.base, I.loc, I.cell, I.free, I.freeC, I.pin, I.hok, I.len⟩
theorem Inv.unwish (I : Inv (X.wish E) pins σ H s) : Inv X pins σ H s := ⟨I.ok.unwish, I.os, I.bare, I.base, I.loc, I.cell, I.free, I.freeC, I.pin, I.hok, I.len⟩
theorem SP.unwish {D : Ends} {f : Flow} {s' : Shared} (h : SP (X.wish E) pins D f s') : SP X pins D f s' := by
  cases f with
  | next => obtain ⟨σ', H', I, q⟩ := h; exact ⟨σ', H', I.unwish, q⟩
  | brk => obtain ⟨σ', H', I, q⟩ := h; exact ⟨σ', H', I.unwish, q⟩
  | cont => obtain ⟨σ', H', I, q⟩ := h; exact ⟨σ', H', I.unwish, q⟩
  | ret u => obtain ⟨v, σ', H', I, r, q⟩ := h; exact ⟨v, σ', H', I.unwish, r, q⟩
theorem PE.nox {e : Expr} {t : TE} (h : PE X.nox e t) : PE X e t := fun pins s σ H Q I hw =>
  wpAny_mono (h pins s σ H Q (I.wish _) hw) (fun _ _ ⟨v, H', I', r, q⟩ => ⟨v, H', I'.unwish, r, q⟩) fun _ _ z => False.elim z
theorem PT.nox {e : Expr} {t : TT} (h : PT X.nox e t) : PT X e t := fun pins s σ H Q I hw =>
  wpAny_mono (h pins s σ H Q (I.wish _) hw) (fun _ _ ⟨H', I', q⟩ => ⟨H', I'.unwish, q⟩) fun _ _ z => False.elim z
theorem PSs.nox {st : List Stmt} {t : TS} (h : PSs X.nox st t) : PSs X st t := fun pins s σ H D I hw =>
  wpAny_mono (h pins s σ H D (I.wish _) hw) (fun _ _ q => q.unwish) fun _ _ z => False.elim z
end
/-! ### blocks and small statements -/
section
variable {X : Cx} {st : Stmt} {rest : List Stmt} {t u : TS} {e : Expr} {te : TE} {pos : Pos}
def tNext : TS := fun D σ H => D.nx σ H
def tSeq (t u : TS) : TS := fun D σ H => t { D with nx := u D } σ H
theorem pss_nil : PSs X [] tNext := fun _ _ σ H _ I h => wpAny_execs_nil ⟨σ, H, I, h⟩
theorem pss_cons (h1 : PS X st t) (h2 : PSs X rest u) : PSs X (st :: rest) (tSeq t u) := by
  intro pins s σ H D I h
  refine wpAny_execs_cons (thn (h1 pins s σ H { D with nx := u D } I h) fun f s1 q => ?_)
  cases f with
  | next =>
    obtain ⟨σ', H', I', q⟩ := q
    exact h2 pins s1 σ' H' D I' q
  | ret v => exact q
  | brk => exact q
  | cont => exact q
theorem pss_one (h1 : PS X st t) : PSs X [st] t := by
  intro pins s σ H D I h
  refine wpAny_execs_cons (thn (h1 pins s σ H D I h) fun f s1 q => ?_)
  cases f with
  | next => exact wpAny_execs_nil q
  | ret v => exact q
  | brk => exact q
  | cont => exact q
def tBreak : TS := fun D σ H => D.bk σ H
def tCont : TS := fun D σ H => D.ct σ H
/-- in a def's body nothing is shown -/
theorem Inv.quiet {pins : List (Addr × Obj)} {σ : St} {H : Hp} {s : Shared} (I : Inv X pins σ H s) : interactive X.env = false := by simp [interactive, I.ok.kind]
/-- an expression whose value is dropped -/
def tDrop (te : TE) : TS := fun D σ H => te σ H fun _ H1 => D.nx σ H1
theorem ps_expr (he : PE X e te) (hs : swapsWith e none pos.line X.env = pure false := by rfl) : PS X (.Expr e pos) (tDrop te) := by
  intro pins s σ H D I h
  exact wpAny_Expr_any (thn (he pins s σ H _ I h) fun v s1 ⟨x, H1, I1, r1, q1⟩ => ⟨σ, H1, I1, q1⟩) I.quiet hs
def tRet (te : TE) : TS := fun D σ H => te σ H D.rt
theorem ps_ret (he : PE X e te) : PS X (.Return (some e) pos) (tRet te) := by
  intro pins s σ H D I h
  exact wpAny_Return_some (thn (he pins s σ H _ I h) fun v s1 ⟨x, H1, I1, r1, q1⟩ => ⟨x, σ, H1, I1, r1, q1⟩)
def tRetN : TS := fun D _ H => D.rt .non H
def tIfS (c : TT) (t u : TS) : TS := fun D σ H => c σ H fun b H1 => if b = true then t D σ H1 else u D σ H1
theorem ps_if {c : Expr} {a b : List Stmt} {tc : TT} (hc : PT X c tc) (ha : PSs X a t) (hb : PSs X b u) : PS X (.If c a b pos) (tIfS tc t u) := by
  intro pins s σ H D I h
  refine wpAny_If (thn (hc pins s σ H _ I h) fun d s1 ⟨H1, I1, q1⟩ => ?_)
  cases d with
  | true => exact ha pins s1 σ H1 D I1 q1
  | false => exact hb pins s1 σ H1 D I1 q1
end
/-! ### targets -/
abbrev TG := V → St → Hp → (St → Hp → Prop) → Prop
abbrev TGs := List V → St → Hp → (St → Hp → Prop) → Prop
def PG (X : Cx) (target : Expr) (t : TG) : Prop :=
  ∀ (pins : List (Addr × Obj)) (s : Shared) (σ : St) (H : Hp) (v : V) (u : Value) (Q : St → Hp → Prop), Inv X pins σ H s → RelV v u → t v σ H Q →
    wpAny (model X.prog X.w) X.A (assign target X.env u) (fun _ s' => ∃ σ' H', Inv X pins σ' H' s' ∧ Q σ' H') X.xe s
/-- several targets, one after another -/
def PGs (X : Cx) (ts : List Expr) (t : TGs) : Prop :=
  ∀ (pins : List (Addr × Obj)) (s : Shared) (σ : St) (H : Hp) (vs : List V) (us : List Value) (Q : St → Hp → Prop), Inv X pins σ H s → Vals vs us → t vs σ H Q →
    wpAny (model X.prog X.w) X.A (assignInOrder ((assignEach ts X.env).map (·.2)) us) (fun _ s' => ∃ σ' H', Inv X pins σ' H' s' ∧ Q σ' H') X.xe s
/-- o[i] = v, by values -/
abbrev TSet := V → V → V → Hp → (Hp → Prop) → Prop
def PSet (X : Cx) (t : TSet) : Prop :=
  ∀ (pins : List (Addr × Obj)) (s : Shared) (σ : St) (H : Hp) (o i v : V) (ov iv u : Value) (Q : Hp → Prop), Inv X pins σ H s → RelV o ov → RelV i iv → RelV v u → t o i v H Q →
    wpAny (model X.prog X.w) X.A (setItem ov iv u) (fun _ s' => ∃ H', Inv X pins σ H' s' ∧ Q H') X.xe s
section
variable {X : Cx} {pos : Pos}
def gName (i : Nat) : TG := fun v σ H Q => Q (σ.set i (some v)) H
theorem pg_name {i : Nat} {x : Str} (hN : X.N.Nodup) (hi : X.N[i]? = some x) (hx : Loc X.env.scope x) (hf : X.fn x = true ∨ X.env.scope.names.lookup x = some .local := by first | exact .inl rfl | exact .inr rfl | assumption) : PG X (.Name x pos) (gName i) := by
  intro pins s σ H v u Q I r h
  exact wpAny_assign_Name (store_ok I hN hi hx r (fun s' I' => ⟨_, H, I', h⟩) hf)
def gNil : TGs := fun vs σ H Q => vs = [] ∧ Q σ H
def gCons (t : TG) (u : TGs) : TGs := fun vs σ H Q => ∃ v r, vs = v :: r ∧ t v σ H fun σ' H' => u r σ' H' Q
theorem pgs_nil : PGs X [] gNil := by
  intro pins s σ H vs us Q I r h
  obtain ⟨e, h⟩ := h
  subst e
  cases r
  exact assignInOrder_nil ⟨σ, H, I, h⟩
theorem pgs_cons {e : Expr} {es : List Expr} {t : TG} {u : TGs} (h1 : PG X e t) (h2 : PGs X es u)
    (hs : (assignEach (e :: es) X.env).map (·.2) = assign e X.env :: (assignEach es X.env).map (·.2) := by rfl) : PGs X (e :: es) (gCons t u) := by
  intro pins s σ H vs us Q I r h
  obtain ⟨v, vr, e1, h⟩ := h
  subst e1
  cases r with
  | cons r rr =>
    rw [hs]
    refine assignInOrder_cons (thn (h1 pins s σ H _ _ _ I r h) fun _ s1 ⟨σ1, H1, I1, q1⟩ => ?_)
    exact h2 pins s1 σ1 H1 _ _ Q I1 rr q1
/-- (a, b, ..) = a tuple of that length -/
def gTup (K : PySem.W.Frag) (n : Nat) (t : TGs) : TG := fun v σ H Q => ∃ a xs, v = .ref a ∧ SqT K H a xs ∧ xs.length = n ∧ t xs σ H Q
theorem pg_tup {es : List Expr} {k : Nat} {t : TGs} {n : Nat} (hc : X.calm = true) (h : PGs X es t)
    (hn : (assignEach es X.env).length = n := by rfl) (hst : (assignEach es X.env).findIdx? (·.1) = none := by rfl) : PG X (.Tuple es k pos) (gTup X.K n t) := by
  intro pins s σ H v u Q I r hw
  obtain ⟨a, xs, e1, hq, hl, hw⟩ := hw
  subst e1
  cases r
  obtain ⟨its, rv, ht, hz⟩ := I.tuple hq
  refine assign_Tuple_tuple (I.ok.hd hc) ht (by simp [hn, ← hl, rv.length]) hst fun h' hx => ?_
  have I1 : Inv X pins σ H { s with heap := h' } := I.kept (t' := s.toks) fun b o e => hx b o (Nat.ne_of_lt (Heap.lt_size e)) e
  exact h pins _ σ H xs _ Q I1 (by simpa using rv) hw
/-- o[i] = .. -/
def gSub (to ti : TE) (t : TSet) : TG := fun v σ H Q => to σ H fun o H1 => ti σ H1 fun i H2 => t o i v H2 fun H3 => Q σ H3
theorem pg_sub {o i : Expr} {to ti : TE} {t : TSet} (ho : PE X o to) (hi : PE X i ti) (hs : PSet X t)
    (ha : ∀ v, assign (.Subscript o i pos) X.env v = (do
      let ov ← holding [v] (eval o X.env)
      let iv ← holding [v, ov] (eval i X.env)
      standAt pos
      holding [v, ov, iv] (setItem ov iv v)
      release [v, ov, iv] []) := by intro _; rfl) : PG X (.Subscript o i pos) (gSub to ti t) := by
  intro pins s σ H v u Q I r h
  rw [ha]
  refine wpAny_bind (wpAny_holding (thn (ho pins s σ H _ I h) fun ov s1 ⟨x, H1, I1, r1, q1⟩ => ?_))
  refine wpAny_bind (wpAny_holding (thn (hi pins s1 σ H1 _ I1 q1) fun iv s2 ⟨y, H2, I2, r2, q2⟩ => ?_))
  refine wpAny_bind (wpAny_standAt (wpAny_bind (wpAny_holding (thn (hs pins s2 σ H2 x y v ov iv u _ I2 r1 r2 r q2) fun _ s3 ⟨H3, I3, q3⟩ => ?_))))
  exact wpAny_release ⟨σ, H3, I3, q3⟩
/-- target = value -/
def tAsg (te : TE) (g : TG) : TS := fun D σ H => te σ H fun x H1 => g x σ H1 D.nx
theorem ps_asg {tg e : Expr} {te : TE} {g : TG} (he : PE X e te) (hg : PG X tg g) (hs : swapsWithSole [tg] e pos.line X.env = pure false := by rfl) (hw : swappedStores [tg] e X.env = pure none := by rfl)
    (h1 : (assignEach [tg] X.env).map (·.2) = [assign tg X.env] := by rfl) : PS X (.Assign [tg] e pos) (tAsg te g) := by
  intro pins s σ H D I h
  refine wpAny_Assign_stores (thn (he pins s σ H _ I h) fun v s1 ⟨x, H1, I1, r1, q1⟩ => ?_) hs hw
  rw [h1]
  exact thn (hg pins s1 σ H1 x v _ I1 r1 q1) fun _ s2 q => q
/-- name = value -/
theorem ps_set {i : Nat} {x : Str} {e : Expr} {te : TE} {pos' : Pos} (hN : X.N.Nodup) (hi : X.N[i]? = some x) (hx : Loc X.env.scope x) (he : PE X e te) (hs : swapsWith e (some (.Name x pos')) pos.line X.env = pure false := by rfl) (hf : X.fn x = true ∨ X.env.scope.names.lookup x = some .local := by first | exact .inl rfl | exact .inr rfl | assumption) :
    PS X (.Assign [.Name x pos'] e pos) (tAsg te (gName i)) := by
  intro pins s σ H D I h
  refine wpAny_Assign_Name (thn (he pins s σ H _ I h) fun v s1 ⟨y, H1, I1, r1, q1⟩ => ?_) hs
  exact store_ok I1 hN hi hx r1 (fun s2 I2 => ⟨_, H1, I2, q1⟩) hf
end
/-! ### while -/
section
variable {X : Cx} {pos : Pos}
end
/-! ### what a loop or a comprehension walks -/
/-- at turn i: it yields x (the heap may grow), or it stops -/
structure It where
  go : Nat → Hp → Prop
  yld : Nat → Hp → V → Hp → Prop
  stop : Nat → Hp → Prop
/-- the iterator's own objects may turn: they are not the frame's, not pinned, younger than the entry (or a comprehension's own) -/
def FpOk (X : Cx) (pins : List (Addr × Obj)) (H : Hp) (b : Addr) : Prop :=
  H b = none ∧ b ≠ X.env.locals ∧ b ∉ X.fs ∧ (b ∈ X.ex ∨ X.s₀.heap.objs.size ≤ b) ∧ (∀ x c, X.env.cells.lookup x = some c → c ≠ b) ∧ ∀ p ∈ X.pn ++ pins, p.1 ≠ b
theorem Inv.fpOk {X : Cx} {pins : List (Addr × Obj)} {σ : St} {H H' : Hp} {s : Shared} {b : Addr} (I : Inv X pins σ H s) (hb : s.heap.objs.size ≤ b) (hn : H' b = none) : FpOk X pins H' b := by
  refine ⟨hn, Nat.ne_of_gt (Nat.lt_of_lt_of_le I.lt hb), I.nofs hb, .inr (Nat.le_trans I.sz hb), fun x c e z => ?_, fun p hp z => ?_⟩
  · obtain ⟨v, q⟩ := I.cell x c e
    exact absurd (Nat.lt_of_lt_of_le q.lt (by rw [z]; exact hb)) (Nat.lt_irrefl _)
  · exact absurd (Nat.lt_of_lt_of_le (Heap.lt_size (I.pin p hp).1) (by rw [z]; exact hb)) (Nat.lt_irrefl _)
structure Turn (P : Program) (w : World) (K : PySem.W.Frag) (tg : Expr) (J : It) (fp : List Addr) (it : Addr) (tn : Nat → Heap → Prop) : Prop where
  mem : it ∈ fp
  obj : ∀ i h, tn i h → ∀ b ∈ fp, ∃ o, h.get? b = some o ∧ ∀ v, o.data ≠ .cell v
  keep : ∀ i h h', tn i h → (∀ b ∈ fp, ∀ o, h.get? b = some o → h'.get? b = some o) → tn i h'
  item : ∀ (X : Cx), X.prog = P → X.w = w → X.K = K → X.calm = true → ∀ (i : Nat) (pins : List (Addr × Obj)) (s : Shared) (σ : St) (H : Hp) (E : Value → Shared → Prop), Inv X pins σ H s → (∀ b ∈ fp, FpOk X pins H b) → tn i s.heap → J.go i H →
    wpAny (model P w) X.A (pyNext (.ref it)) (fun r s1 => ∃ u, r = some u ∧
      wpAny (model P w) X.A (letOwnedTupleGo tg (.ref it) u) (fun _ s2 => ∃ x H', Inv X pins σ H' s2 ∧ RelV x u ∧ J.yld i H x H' ∧ tn (i + 1) s2.heap ∧ ∀ b ∈ fp, H' b = none) E s1) E s
  done : ∀ (X : Cx), X.prog = P → X.w = w → X.K = K → X.calm = true → ∀ (i : Nat) (pins : List (Addr × Obj)) (s : Shared) (σ : St) (H : Hp) (E : Value → Shared → Prop), Inv X pins σ H s → (∀ b ∈ fp, FpOk X pins H b) → tn i s.heap → J.stop i H →
    wpAny (model P w) X.A (pyNext (.ref it)) (fun r s1 => r = none ∧ Inv X pins σ H s1) E s
  self : ∀ (A : Around) (i : Nat) (s : Shared) (Q : Value → Shared → Prop) (E : Value → Shared → Prop), tn i s.heap → Q (.ref it) s → wpAny (model P w) A (pyIter (.ref it)) Q E s
abbrev TI := St → Hp → (It → Hp → Prop) → Prop
/-- an iterator has come -/
def PIE (X : Cx) (pins : List (Addr × Obj)) (σ : St) (tg : Expr) (R : It → Hp → Prop) (itv : Value) (s2 : Shared) : Prop :=
  ∃ (it : Addr) (fp : List Addr) (tn : Nat → Heap → Prop) (J : It) (H' : Hp), itv = .ref it ∧ Inv X pins σ H' s2 ∧ Turn X.prog X.w X.K tg J fp it tn ∧ tn 0 s2.heap ∧ (∀ b ∈ fp, FpOk X pins H' b) ∧ R J H'
def PI (X : Cx) (tg iter : Expr) (wi : TI) : Prop :=
  ∀ (pins : List (Addr × Obj)) (s : Shared) (σ : St) (H : Hp) (R : It → Hp → Prop), Inv X pins σ H s → wi σ H R →
    wpAny (model X.prog X.w) X.A (eval iter X.env) (fun v s1 => wpAny (model X.prog X.w) X.A (pyIter v) (PIE X pins σ tg R) X.xe s1) X.xe s
/-- the step ahead of the store is nothing for an iterator that keeps no tuple -/
theorem go_of {M : Model} {A : Around} {E : Value → Shared → Prop} {s : Shared} {tg : Expr} {it : Addr} {u : Value} {o : Obj} {n : String} {vs : Array Value} {Q : Unit → Shared → Prop} (ho : s.heap.get? it = some o) (hc : o.cls = .type n) (hd : o.data = .fields vs)
    (hn : ["enumerate", "zip", "dict_itemiterator", "dict_reverseitemiterator", "odict_iterator", "itertools.zip_longest", "itertools.pairwise"].contains n = false) (hQ : Q () s) : wpAny M A (letOwnedTupleGo tg (.ref it) u) Q E s := by
  unfold letOwnedTupleGo
  cases tg <;> first
    | exact wpAny_pure hQ
    | (cases u <;> first
        | exact wpAny_pure hQ
        | (refine wpAny_bind (wpAny_load ho ?_)
           rw [hc, hd]
           show wpAny M A (if (["enumerate", "zip", "dict_itemiterator", "dict_reverseitemiterator", "odict_iterator", "itertools.zip_longest", "itertools.pairwise"].contains n && vs[0]? == some (rawInt _)) = true then _ else _) Q E s
           rw [if_neg (by intro h; rw [hn, Bool.false_and] at h; cases h)]
           exact wpAny_pure hQ))
/-- the list at a, as it stands at each turn (a loop may append to it) -/
def Itl (K : PySem.W.Frag) (a : Addr) : It :=
  ⟨fun i H => ∃ xs x, SqL K H a xs ∧ xs[i]? = some x, fun i H x H' => H' = H ∧ ∀ xs, SqL K H a xs → xs[i]? = some x, fun i H => ∃ xs, SqL K H a xs ∧ xs.length ≤ i⟩
def Itt (K : PySem.W.Frag) (a : Addr) : It :=
  ⟨fun i H => ∃ xs x, SqT K H a xs ∧ xs[i]? = some x, fun i H x H' => H' = H ∧ ∀ xs, SqT K H a xs → xs[i]? = some x, fun i H => ∃ xs, SqT K H a xs ∧ xs.length ≤ i⟩
/-- lo, lo + 1, .. (n of them) -/
def Itr (lo : Int) (n : Nat) : It := ⟨fun i _ => i < n, fun i H x H' => H' = H ∧ x = .int (lo + i), fun i _ => n ≤ i⟩
theorem turn_list {P : Program} {w : World} {K : PySem.W.Frag} {tg : Expr} (a it : Addr) : Turn P w K tg (Itl K a) [it] it (fun i h => h.IsListIter it a i) where
  mem := by simp
  obj := fun i h st b hb => by
    have e : b = it := by simpa using hb
    subst e
    obtain ⟨o, e, c, d⟩ := st
    exact ⟨o, e, fun v z => by rw [d] at z; cases z⟩
  keep := fun i h h' st k => st.at fun o e => k it (by simp) o e
  item := by
    intro X hP hw hK hc i pins s σ H E I hf st hg
    subst hP hw hK
    obtain ⟨xs, x, hq, hx⟩ := hg
    obtain ⟨its, rv, p, hz⟩ := I.list hq
    obtain ⟨u, hu, ru⟩ := rv.get hx
    obtain ⟨f0, f1, f2, f3, f4, f5⟩ := hf it (by simp)
    refine wpAny_pyNext_list_item st p.isList (x := u) (by simpa using hu) fun h' st' sb => ?_
    have I1 : Inv X pins σ H { s with heap := h' } := I.turned (t' := s.toks) (fun b o hb e => (sb.2 b hb).trans e) f0 f1 f3 f4 f5
    obtain ⟨o, e, c, d⟩ := id st'
    exact ⟨u, rfl, go_of (s := { s with heap := h' }) e c d (by decide) ⟨x, H, I1, ru, ⟨rfl, fun ys hy => by rw [I.list_inj hy hq]; exact hx⟩, st', fun b hb => (hf b hb).1⟩⟩
  done := by
    intro X hP hw hK hc i pins s σ H E I hf st hg
    subst hP hw hK
    obtain ⟨xs, hq, hx⟩ := hg
    obtain ⟨its, rv, p, hz⟩ := I.list hq
    obtain ⟨f0, f1, f2, f3, f4, f5⟩ := hf it (by simp)
    have hl := rv.length
    exact wpAny_pyNext_list_end (I.ok.hd hc) st p.isList (by simp; omega) fun h' eb => ⟨rfl, I.turned (t' := s.toks) (fun b o hb e => eb b o hb e) f0 f1 f3 f4 f5⟩
  self := fun _ _ _ _ _ st h => wpAny_pyIter_listiter st h
theorem turn_tuple {P : Program} {w : World} {K : PySem.W.Frag} {tg : Expr} (a it : Addr) : Turn P w K tg (Itt K a) [it] it (fun i h => h.IsTupleIter it a i) where
  mem := by simp
  obj := fun i h st b hb => by
    have e : b = it := by simpa using hb
    subst e
    obtain ⟨o, e, c, d⟩ := st
    exact ⟨o, e, fun v z => by rw [d] at z; cases z⟩
  keep := fun i h h' st k => st.at fun o e => k it (by simp) o e
  item := by
    intro X hP hw hK hc i pins s σ H E I hf st hg
    subst hP hw hK
    obtain ⟨xs, x, hq, hx⟩ := hg
    obtain ⟨its, rv, p, hz⟩ := I.tuple hq
    obtain ⟨u, hu, ru⟩ := rv.get hx
    obtain ⟨f0, f1, f2, f3, f4, f5⟩ := hf it (by simp)
    refine wpAny_pyNext_tuple_item st (show s.heap.IsTuple a its.toArray from p) (x := u) (by simpa using hu) fun h' st' sb => ?_
    have I1 : Inv X pins σ H { s with heap := h' } := I.turned (t' := s.toks) (fun b o hb e => (sb.2 b hb).trans e) f0 f1 f3 f4 f5
    obtain ⟨o, e, c, d⟩ := id st'
    exact ⟨u, rfl, go_of (s := { s with heap := h' }) e c d (by decide) ⟨x, H, I1, ru, ⟨rfl, fun ys hy => by rw [I.tuple_inj hy hq]; exact hx⟩, st', fun b hb => (hf b hb).1⟩⟩
  done := by
    intro X hP hw hK hc i pins s σ H E I hf st hg
    subst hP hw hK
    obtain ⟨xs, hq, hx⟩ := hg
    obtain ⟨its, rv, p, hz⟩ := I.tuple hq
    obtain ⟨f0, f1, f2, f3, f4, f5⟩ := hf it (by simp)
    have hl := rv.length
    exact wpAny_pyNext_tuple_end (I.ok.hd hc) st (show s.heap.IsTuple a its.toArray from p) (by simp; omega) fun h' eb => ⟨rfl, I.turned (t' := s.toks) (fun b o hb e => eb b o hb e) f0 f1 f3 f4 f5⟩
  self := fun _ _ _ _ _ st h => wpAny_pyIter_tupleiter st h
theorem turn_range {P : Program} {w : World} {K : PySem.W.Frag} {tg : Expr} (it : Addr) (lo : Int) (n : Nat) : Turn P w K tg (Itr lo n) [it] it (fun i h => IsRangeIter h it (lo + (i : Nat) * 1) ((n : Int) - (i : Nat)) 1) where
  mem := by simp
  obj := fun i h st b hb => by
    have e : b = it := by simpa using hb
    subst e
    exact ⟨_, st, fun v z => by
      have z' : Data.fields _ = Data.cell v := z
      cases z'⟩
  keep := fun i h h' st k => k it (by simp) _ st
  item := by
    intro X hP hw hK hc i pins s σ H E I hf st hg
    subst hP hw hK
    obtain ⟨f0, f1, f2, f3, f4, f5⟩ := hf it (by simp)
    have W := Walks.range (prog := X.prog) (w := X.w) (I.ok.hd hc) it lo 1 n
    refine W.item i s _ _ hg st fun v h' tk hv st' kk => ?_
    obtain ⟨t, rfl⟩ := hv
    have I1 : Inv X pins σ H { s with heap := h', toks := tk } := I.turned (fun b o hb e => kk b o (by simpa using hb) e) f0 f1 f3 f4 f5
    refine ⟨_, rfl, go_of (s := { s with heap := h', toks := tk }) (n := "range_iterator") st' rfl rfl (by decide) ⟨.int (lo + i), H, I1, ⟨t, ?_⟩, ⟨rfl, rfl⟩, st', fun b hb => (hf b hb).1⟩⟩
    rw [Int.mul_one]
  done := by
    intro X hP hw hK hc i pins s σ H E I hf st hg
    subst hP hw hK
    obtain ⟨f0, f1, f2, f3, f4, f5⟩ := hf it (by simp)
    exact wpAny_pyNext_range_end (I.ok.hd hc) st (by have : n ≤ i := hg; omega) fun h' eb => ⟨rfl, I.turned (t' := s.toks) (fun b o hb e => eb b o hb e) f0 f1 f3 f4 f5⟩
  self := fun _ _ _ _ _ st h => wpAny_pyIter_rangeiter st h
end L2
namespace L2
open PySem PySem.Spec PyProof.Rows
section
variable {X : Cx} {tg : Expr}
def iList (K : PySem.W.Frag) (tl : TE) : TI := fun σ H R => tl σ H fun x H1 => ∃ a, x = .ref a ∧ (∃ xs, SqL K H1 a xs) ∧ R (Itl K a) H1
def iTup (K : PySem.W.Frag) (tl : TE) : TI := fun σ H R => tl σ H fun x H1 => ∃ a, x = .ref a ∧ (∃ xs, SqT K H1 a xs) ∧ R (Itt K a) H1
theorem pi_list {l : Expr} {tl : TE} (hl : PE X l tl) : PI X tg l (iList X.K tl) := by
  intro pins s σ H R I h
  refine thn (hl pins s σ H _ I h) fun v s1 ⟨x, H1, I1, r1, q1⟩ => ?_
  obtain ⟨a, e, ⟨xs, hq⟩, q⟩ := q1
  subst e
  cases r1
  obtain ⟨its, rv, p, hz⟩ := I1.list hq
  refine wpAny_pyIter_list p.isList ?_
  refine ⟨s1.heap.objs.size, [s1.heap.objs.size], _, _, H1, rfl, I1.kept (t' := s1.toks) fun b o e => Heap.get?_push_of_some _ e, turn_list a _, ⟨_, Heap.get?_push_size _ rfl, rfl, rfl⟩, fun b hb => ?_, q⟩
  have e : b = s1.heap.objs.size := by simpa using hb
  subst e
  exact I1.fpOk (Nat.le_refl _) (I1.hok.fresh (Nat.le_refl _))
/-- a range object just made, walked -/
theorem range_it {pins : List (Addr × Obj)} {σ : St} {H : Hp} {s : Shared} {R : It → Hp → Prop} {E : Value → Shared → Prop} {lo hi : Int} {t u v : Tok} {tk : Nat} (I : Inv X pins σ H s) (h1 : -(2 ^ 62) ≤ lo) (h2 : lo < 2 ^ 62) (h3 : -(2 ^ 62) ≤ hi) (h4 : hi < 2 ^ 62)
    (q : R (Itr lo (hi - lo).toNat) H) : wpAny (model X.prog X.w) X.A (pyIter (.ref s.heap.objs.size)) (PIE X pins σ tg R) E { s with heap := s.heap.push { cls := .type "range", data := .fields #[.int lo t, .int hi u, .int 1 v] }, toks := tk } := by
  refine wpAny_pyIter_range (IsRange.new ..) (small_one h1 h2 h3 h4) ?_
  have I1 : Inv X pins σ H { s with heap := s.heap.push { cls := .type "range", data := .fields #[.int lo t, .int hi u, .int 1 v] }, toks := tk } := I.kept fun b o e => Heap.get?_push_of_some _ e
  refine ⟨(s.heap.push { cls := .type "range", data := .fields #[.int lo t, .int hi u, .int 1 v] }).objs.size, [(s.heap.push { cls := .type "range", data := .fields #[.int lo t, .int hi u, .int 1 v] }).objs.size], _, _, H, rfl,
    I1.kept (t' := tk) fun b o e => Heap.get?_push_of_some _ e, turn_range _ lo (hi - lo).toNat, ?_, fun b hb => ?_, q⟩
  · have e1 : lo + ((0 : Nat) : Int) * 1 = lo := by simp
    have e2 : (((hi - lo).toNat : Nat) : Int) - ((0 : Nat) : Int) = Builtin.Range.rangeSize lo hi 1 := by rw [rangeSize_one]; split <;> omega
    show IsRangeIter _ _ (lo + ((0 : Nat) : Int) * 1) ((((hi - lo).toNat : Nat) : Int) - ((0 : Nat) : Int)) 1
    rw [e1, e2]
    exact Heap.get?_push_size _ rfl
  · have e : b = (s.heap.push { cls := .type "range", data := .fields #[.int lo t, .int hi u, .int 1 v] }).objs.size := by simpa using hb
    subst e
    exact I1.fpOk (Nat.le_refl _) (I1.hok.fresh (Nat.le_refl _))
def iRng1 (ta : TA) : TI := fun σ H R => ta σ H fun vs H1 => ∃ j : Int, vs = [.int j] ∧ -(2 ^ 62) ≤ j ∧ j < 2 ^ 62 ∧ R (Itr 0 j.toNat) H1
theorem pi_range1 {a : Expr} {ta : TA} {p pos : Pos} (hg : Gl X "range") (hm : X.mg "range" = none) (ha : PA X [a] ta) (hs : starEach [a] X.env = [(false, eval a X.env)] := by rfl) : PI X tg (.Call (.Name "range" p) [a] [] pos) (iRng1 ta) := by
  intro pins s σ H R I h
  refine Call_ (ld_blt I hg hm boot_range (PyProof.Rows.callWith_type1 (thn (ha pos pins s σ H _ I h) fun us s1 ⟨vs, H1, I1, r1, q1⟩ => ?_) hs rfl))
  obtain ⟨j, e, q1, q2, q⟩ := q1
  subst e
  cases r1 with
  | cons r rr =>
    cases rr
    obtain ⟨t, rfl⟩ := r
    exact call_range_1 (range_it I1 (by omega) (by omega) q1 q2 (by simpa using q))
/-! ### for -/
/-- W: the invariant by the turn and a measure; N: what the body is to reach -/
def tFor (wi : TI) (g : TG) (tb : TS) : TS := fun D σ H => wi σ H fun J H1 => ∃ W : Nat → Nat → St → Hp → Prop, (∃ m, W 0 m σ H1) ∧ ∀ i m σ H, W i m σ H →
  (J.stop i H ∧ D.nx σ H) ∨ (J.go i H ∧ ∃ N : St → Hp → Prop, (∀ σ' H', N σ' H' → ∃ m', m' < m ∧ W (i + 1) m' σ' H') ∧ ∀ x H', J.yld i H x H' → g x σ H' fun σ2 H2 => tb { D with nx := N, ct := N, bk := D.nx } σ2 H2)
/-- the records at fp as they stand -/
def pinsAt (fp : List Addr) (h : Heap) : List (Addr × Obj) := fp.filterMap fun b => (h.get? b).map fun o => (b, o)
theorem mem_pinsAt {fp : List Addr} {h : Heap} {b : Addr} {o : Obj} (hb : b ∈ fp) (e : h.get? b = some o) : (b, o) ∈ pinsAt fp h := List.mem_filterMap.mpr ⟨b, hb, by rw [e]; rfl⟩
theorem of_pinsAt {fp : List Addr} {h : Heap} {p : Addr × Obj} (hp : p ∈ pinsAt fp h) : p.1 ∈ fp ∧ h.get? p.1 = some p.2 := by
  obtain ⟨b, hb, e⟩ := List.mem_filterMap.mp hp
  cases q : h.get? b with
  | none => rw [q] at e; cases e
  | some o =>
    rw [q] at e
    have e' : (b, o) = p := Option.some.inj e
    subst e'
    exact ⟨hb, q⟩
theorem Inv.pinned {pins : List (Addr × Obj)} {σ : St} {H : Hp} {s : Shared} {fp : List Addr} (I : Inv X pins σ H s) (hf : ∀ b ∈ fp, FpOk X pins H b) (ho : ∀ b ∈ fp, ∃ o, s.heap.get? b = some o ∧ ∀ v, o.data ≠ .cell v) : Inv X (pins ++ pinsAt fp s.heap) σ H s :=
  I.pins_of fun p hp => (List.mem_append.mp hp).elim (fun z => I.pin p (List.mem_append_right _ z)) fun z => by
    obtain ⟨hb, e⟩ := of_pinsAt z
    obtain ⟨f0, f1, f2, _⟩ := hf p.1 hb
    obtain ⟨o, e', d⟩ := ho p.1 hb
    rw [e] at e'; cases e'
    exact ⟨e, f0, f1, f2, d⟩
theorem Inv.unpinned {pins pl : List (Addr × Obj)} {σ : St} {H : Hp} {s : Shared} (I : Inv X (pins ++ pl) σ H s) : Inv X pins σ H s := I.pins_of fun p hp => I.pin p (List.mem_append_right _ (List.mem_append_left _ hp))
theorem ps_for {iter : Expr} {body : List Stmt} {wi : TI} {g : TG} {tb : TS} {pos : Pos} (hp : PassesOwn (model X.prog X.w) X.A X.env X.xe) (hc : X.calm = true) (hi : PI X tg iter wi) (hg : PG X tg g) (hb : PSs X body tb)
    (hs : ∀ x, foldedSetIterable iter X.env x = pure x := by intro _; rfl) : PS X (.For tg iter body [] pos) (tFor wi g tb) := by
  intro pins s σ H D I h
  refine wpAny_For (thn (hi pins s σ H _ I h) fun v s1 h1 => thn h1 fun itv s2 h2 => ?_) hs
  obtain ⟨it, fp, tn, J, H2, e, I2, T, st2, f2, W, ⟨m0, w0⟩, turn⟩ := h2
  subst e
  -- what stays true of the iterator's objects through the loop
  have stat : ∀ {H' : Hp}, (∀ b ∈ fp, H' b = none) → ∀ b ∈ fp, FpOk X pins H' b := fun hn b hb => ⟨hn b hb, (f2 b hb).2⟩
  refine codeAny_forLoop_any (fun n s' => ∃ i σ' H', Inv X pins σ' H' s' ∧ tn i s'.heap ∧ (∀ b ∈ fp, H' b = none) ∧ W i n σ' H') ?_ m0 ⟨0, σ, H2, I2, st2, fun b hb => (f2 b hb).1, w0⟩
  rintro n s3 ⟨i, σ3, H3, I3, st3, fr3, w3⟩
  rcases turn i n σ3 H3 w3 with ⟨stop, qn⟩ | ⟨go, N, hN, step⟩
  · refine wpAny_passesOwn hp (thn (T.done X rfl rfl rfl hc i pins s3 σ3 H3 X.xe I3 (stat fr3) st3 stop) fun r s4 ⟨hr, I4⟩ => ?_)
    subst hr
    exact wpAny_execs_nil ⟨σ3, H3, I4, qn⟩
  · refine wpAny_passesOwn hp (thn (T.item X rfl rfl rfl hc i pins s3 σ3 H3 X.xe I3 (stat fr3) st3 go) fun r s4 ⟨u, hr, h4⟩ => ?_)
    subst hr
    refine wpAny_passesOwn hp (thn h4 fun _ s5 ⟨x, H5, I5, r5, y5, st5, fr5⟩ => ?_)
    have I5' := I5.pinned (stat fr5) (T.obj _ _ st5)
    refine wpAny_passesOwn hp (thn (hg _ s5 σ3 H5 x u _ I5' r5 (step x H5 y5)) fun _ s6 ⟨σ6, H6, I6, q6⟩ => ?_)
    refine wpAny_passesOwn hp (thn (hb _ s6 σ6 H6 _ I6 q6) fun f s7 q7 => ?_)
    have again : ∀ {σ7 : St} {H7 : Hp}, Inv X (pins ++ pinsAt fp s5.heap) σ7 H7 s7 → N σ7 H7 → ∃ m, m < n ∧ ∃ i σ' H', Inv X pins σ' H' s7 ∧ tn i s7.heap ∧ (∀ b ∈ fp, H' b = none) ∧ W i m σ' H' := fun {σ7 H7} I7 n7 => by
      obtain ⟨m', hm, w7⟩ := hN σ7 H7 n7
      refine ⟨m', hm, i + 1, σ7, H7, I7.unpinned, T.keep _ _ _ st5 fun b hb o e => (I7.pin (b, o) (List.mem_append_right _ (List.mem_append_right _ (mem_pinsAt hb e)))).1, fun b hb => ?_, w7⟩
      obtain ⟨o, e, d⟩ := T.obj _ _ st5 b hb
      exact (I7.pin (b, o) (List.mem_append_right _ (List.mem_append_right _ (mem_pinsAt hb e)))).2.1
    cases f with
    | next => obtain ⟨σ7, H7, I7, n7⟩ := q7; exact again I7 n7
    | cont => obtain ⟨σ7, H7, I7, n7⟩ := q7; exact again I7 n7
    | brk => obtain ⟨σ7, H7, I7, q7⟩ := q7; exact ⟨σ7, H7, I7.unpinned, q7⟩
    | ret v => obtain ⟨x7, σ7, H7, I7, r7, q7⟩ := q7; exact ⟨x7, σ7, H7, I7.unpinned, r7, q7⟩
end
/-! ### the forms one uses -/
/-- over a list that the body leaves as it is -/
theorem for_list {K : PySem.W.Frag} {a : Addr} {xs : List V} {g : TG} {tb : TS} {D : Ends} {σ : St} {H : Hp} (Pv : Nat → St → Hp → Prop) (h0 : Pv 0 σ H) (hl : ∀ i σ H, i ≤ xs.length → Pv i σ H → SqL K H a xs)
    (hs : ∀ i x σ H, xs[i]? = some x → Pv i σ H → g x σ H fun σ2 H2 => tb { D with nx := Pv (i + 1), ct := Pv (i + 1), bk := D.nx } σ2 H2) (hd : ∀ σ H, Pv xs.length σ H → D.nx σ H) :
    ∃ W : Nat → Nat → St → Hp → Prop, (∃ m, W 0 m σ H) ∧ ∀ i m σ H, W i m σ H →
      ((Itl K a).stop i H ∧ D.nx σ H) ∨ ((Itl K a).go i H ∧ ∃ N : St → Hp → Prop, (∀ σ' H', N σ' H' → ∃ m', m' < m ∧ W (i + 1) m' σ' H') ∧ ∀ x H', (Itl K a).yld i H x H' → g x σ H' fun σ2 H2 => tb { D with nx := N, ct := N, bk := D.nx } σ2 H2) := by
  refine ⟨fun i m σ H => m = xs.length - i ∧ i ≤ xs.length ∧ Pv i σ H, ⟨xs.length, by simp, Nat.zero_le _, h0⟩, ?_⟩
  rintro i m σ H ⟨rfl, hi, p⟩
  have q := hl i σ H hi p
  by_cases hlt : i < xs.length
  · refine .inr ⟨⟨xs, xs[i], q, by simp [hlt]⟩, Pv (i + 1), fun σ' H' p' => ⟨xs.length - (i + 1), by omega, rfl, hlt, p'⟩, fun x H' y => ?_⟩
    obtain ⟨e, y⟩ := y
    subst e
    exact hs i x σ _ (y xs q) p
  · have e : i = xs.length := by omega
    subst e
    exact .inl ⟨⟨xs, q, Nat.le_refl _⟩, hd σ H p⟩
theorem for_range {lo : Int} {n : Nat} {g : TG} {tb : TS} {D : Ends} {σ : St} {H : Hp} (Pv : Nat → St → Hp → Prop) (h0 : Pv 0 σ H)
    (hs : ∀ i σ H, i < n → Pv i σ H → g (.int (lo + i)) σ H fun σ2 H2 => tb { D with nx := Pv (i + 1), ct := Pv (i + 1), bk := D.nx } σ2 H2) (hd : ∀ σ H, Pv n σ H → D.nx σ H) :
    ∃ W : Nat → Nat → St → Hp → Prop, (∃ m, W 0 m σ H) ∧ ∀ i m σ H, W i m σ H →
      ((Itr lo n).stop i H ∧ D.nx σ H) ∨ ((Itr lo n).go i H ∧ ∃ N : St → Hp → Prop, (∀ σ' H', N σ' H' → ∃ m', m' < m ∧ W (i + 1) m' σ' H') ∧ ∀ x H', (Itr lo n).yld i H x H' → g x σ H' fun σ2 H2 => tb { D with nx := N, ct := N, bk := D.nx } σ2 H2) := by
  refine ⟨fun i m σ H => m = n - i ∧ i ≤ n ∧ Pv i σ H, ⟨n, by simp, Nat.zero_le _, h0⟩, ?_⟩
  rintro i m σ H ⟨rfl, hi, p⟩
  by_cases hlt : i < n
  · refine .inr ⟨hlt, Pv (i + 1), fun σ' H' p' => ⟨n - (i + 1), by omega, rfl, hlt, p'⟩, fun x H' y => ?_⟩
    obtain ⟨e, y⟩ := y
    subst e y
    exact hs i σ _ hlt p
  · have e : i = n := by omega
    subst e
    exact .inl ⟨Nat.le_refl _, hd σ H p⟩
end L2
namespace L2
open PySem PySem.Spec PyProof.Rows
abbrev R2 := V → V → Hp → VK → Prop
/-- a two-place operation on values: f is binaryOp op, inplaceOp op or compareOp op -/
def OpR (X : Cx) (f : Value → Value → Sem Value) (r : R2) : Prop :=
  ∀ (pins : List (Addr × Obj)) (s : Shared) (σ : St) (H : Hp) (x y : V) (v u : Value) (Q : VK), Inv X pins σ H s → RelV x v → RelV y u → r x y H Q →
    wpAny (model X.prog X.w) X.A (f v u) (EP X pins σ Q) X.xe s
/-- a one-place operation -/
def UnR (X : Cx) (f : Value → Sem Value) (r : V → Hp → VK → Prop) : Prop :=
  ∀ (pins : List (Addr × Obj)) (s : Shared) (σ : St) (H : Hp) (x : V) (v : Value) (Q : VK), Inv X pins σ H s → RelV x v → r x H Q →
    wpAny (model X.prog X.w) X.A (f v) (EP X pins σ Q) X.xe s
/-- a call of a value that is known (a builtin, a type) with values -/
def CallR (X : Cx) (f : Value) (r : List V → Hp → VK → Prop) : Prop :=
  ∀ (pins : List (Addr × Obj)) (s : Shared) (σ : St) (H : Hp) (xs : List V) (us : List Value) (Q : VK), Inv X pins σ H s → Vals xs us → r xs H Q →
    wpAny (model X.prog X.w) X.A (call f us) (EP X pins σ Q) X.xe s
def tOp (r : R2) (ta tb : TE) : TE := fun σ H Q => ta σ H fun x H1 => tb σ H1 fun y H2 => r x y H2 Q
def tUn (r : V → Hp → VK → Prop) (ta : TE) : TE := fun σ H Q => ta σ H fun x H1 => r x H1 Q
/-- ints in, under C, and a value out -/
def rI (C : Int → Int → Prop) (g : Int → Int → V) : R2 := fun x y H Q => ∃ i j, x = .int i ∧ y = .int j ∧ C i j ∧ Q (g i j) H
def rI0 (g : Int → Int → V) : R2 := fun x y H Q => ∃ i j, x = .int i ∧ y = .int j ∧ Q (g i j) H
def rU (g : Int → V) : V → Hp → VK → Prop := fun x H Q => ∃ i, x = .int i ∧ Q (g i) H
section
variable {X : Cx} {a b c : Expr} {ta tb tc : TE} {pos : Pos}
theorem binT (ha : PE X a ta) (hb : PE X b tb) {pins : List (Addr × Obj)} {s : Shared} {σ : St} {H : Hp} {R : V → V → Hp → Prop} (I : Inv X pins σ H s)
    (h : ta σ H fun x H1 => tb σ H1 fun y H2 => R x y H2) {Q : Value → Shared → Prop} {f : Value → Value → Sem Value}
    (hf : ∀ v u s2 x y H2, Inv X pins σ H2 s2 → RelV x v → RelV y u → R x y H2 → wpAny (model X.prog X.w) X.A (f v u) Q X.xe s2) :
    wpAny (model X.prog X.w) X.A (eval a X.env) (fun v s₁ => wpAny (model X.prog X.w) X.A (eval b X.env) (fun u s₂ => wpAny (model X.prog X.w) X.A (f v u) Q X.xe s₂) X.xe s₁) X.xe s := by
  refine thn (ha pins s σ H _ I h) fun v s1 ⟨x, H1, I1, r1, q1⟩ => ?_
  refine thn (hb pins s1 σ H1 _ I1 q1) fun u s2 ⟨y, H2, I2, r2, q2⟩ => ?_
  exact hf v u s2 x y H2 I2 r1 r2 q2
theorem pe_op {op : Operator} {r : R2} (ho : OpR X (binaryOp op) r) (ha : PE X a ta) (hb : PE X b tb) : PE X (.BinOp a op b pos) (tOp r ta tb) := by
  intro pins s σ H Q I h
  exact wpAny_BinOp (binT ha hb I h fun v u s2 x y H2 I2 rx ry q => ho pins s2 σ H2 x y v u Q I2 rx ry q)
theorem pe_un {op : UnaryOp} {r : V → Hp → VK → Prop} (ho : UnR X (unaryOp op) r) (ha : PE X a ta) : PE X (.UnaryOp op a pos) (tUn r ta) := by
  intro pins s σ H Q I h
  exact UnaryOp_ (thn (ha pins s σ H _ I h) fun v s1 ⟨x, H1, I1, r1, q1⟩ => ho pins s1 σ H1 x v Q I1 r1 q1)
/-! ### ints -/
theorem opI {f : Value → Value → Sem Value} {C : Int → Int → Prop} {g : Int → Int → Int}
    (rule : ∀ (i j : Int) (t u : Tok) (s : Shared) (Q : Value → Shared → Prop) (E : Value → Shared → Prop), C i j → Q (.int (g i j) s.toks) { s with toks := s.toks + 1 } → wpAny (model X.prog X.w) X.A (f (.int i t) (.int j u)) Q E s) :
    OpR X f (rI C fun i j => .int (g i j)) := by
  intro pins s σ H x y v u Q I rx ry h
  obtain ⟨i, j, rfl, rfl, hc, q⟩ := h
  obtain ⟨t, rfl⟩ := rx
  obtain ⟨t', rfl⟩ := ry
  exact rule i j t t' s _ _ hc ⟨.int (g i j), H, I.tok _, ⟨_, rfl⟩, q⟩
theorem opI0 {f : Value → Value → Sem Value} {g : Int → Int → Int}
    (rule : ∀ (i j : Int) (t u : Tok) (s : Shared) (Q : Value → Shared → Prop) (E : Value → Shared → Prop), Q (.int (g i j) s.toks) { s with toks := s.toks + 1 } → wpAny (model X.prog X.w) X.A (f (.int i t) (.int j u)) Q E s) :
    OpR X f (rI0 fun i j => .int (g i j)) := by
  intro pins s σ H x y v u Q I rx ry h
  obtain ⟨i, j, rfl, rfl, q⟩ := h
  obtain ⟨t, rfl⟩ := rx
  obtain ⟨t', rfl⟩ := ry
  exact rule i j t t' s _ _ ⟨.int (g i j), H, I.tok _, ⟨_, rfl⟩, q⟩
theorem opB0 {f : Value → Value → Sem Value} {g : Int → Int → Bool}
    (rule : ∀ (i j : Int) (t u : Tok) (s : Shared) (Q : Value → Shared → Prop) (E : Value → Shared → Prop), Q (.bool (g i j)) s → wpAny (model X.prog X.w) X.A (f (.int i t) (.int j u)) Q E s) :
    OpR X f (rI0 fun i j => .bl (g i j)) := by
  intro pins s σ H x y v u Q I rx ry h
  obtain ⟨i, j, rfl, rfl, q⟩ := h
  obtain ⟨t, rfl⟩ := rx
  obtain ⟨t', rfl⟩ := ry
  exact rule i j t t' s _ _ ⟨.bl (g i j), H, I, rfl, q⟩
def CDiv (i j : Int) : Prop := 0 < j ∧ j < 1073741824
def CPow (i j : Int) : Prop := 0 ≤ j ∧ j ≤ 1000000 ∧ i.natAbs < 2 ^ 64
def CMul (i j : Int) : Prop := (-(2 ^ 64) < i ∧ i < 2 ^ 64) ∨ (-(2 ^ 64) < j ∧ j < 2 ^ 64)
theorem CMul.ok {i j : Int} (h : CMul i j) : IntMulOk i j := by
  rcases h with ⟨h1, h2⟩ | ⟨h1, h2⟩
  · exact .of_left (intBits_le_64 h1 h2)
  · exact .of_right (intBits_le_64 h1 h2)
theorem two_pow_nn (k : Nat) : (0 : Int) ≤ 2 ^ k := by
  rw [two_pow_cast]
  exact Int.natCast_nonneg _
theorem op_add : OpR X (binaryOp .Add) (rI0 fun i j => .int (i + j)) := opI0 fun _ _ _ _ _ _ _ q => add_int q
theorem op_sub : OpR X (binaryOp .Sub) (rI0 fun i j => .int (i - j)) := opI0 fun _ _ _ _ _ _ _ q => sub_int q
theorem op_mul : OpR X (binaryOp .Mult) (rI CMul fun i j => .int (i * j)) := opI fun _ _ _ _ _ _ _ hc q => mul_int q hc.ok
/-- // by a positive divisor -/
theorem op_fdiv : OpR X (binaryOp .FloorDiv) (rI CDiv fun i j => .int (i / j)) := opI fun i j _ _ _ _ _ hc q => by
  have h1 : (0 : Int) < j := hc.1
  have h2 : j < 1073741824 := hc.2
  exact floordiv_int (by omega) (by rw [Int.fdiv_eq_ediv_of_nonneg i (by omega)]; exact q) (.inl (PyProof.noPylong_small (by omega)))
/-- % by a positive divisor of any size -/
theorem op_mod : OpR X (binaryOp .Mod) (rI (fun _ j => 0 < j) fun i j => .int (i % j)) := opI fun i j _ _ _ _ _ hc q => by
  have h1 : (0 : Int) < j := hc
  exact mod_int' (by omega) (by rw [Int.fmod_eq_emod_of_nonneg i (by omega)]; exact q)
theorem op_shl : OpR X (binaryOp .LShift) (rI CPow fun i j => .int (i * 2 ^ j.toNat)) := opI fun _ _ _ _ _ _ _ hc q => lshift_int_small hc.1 hc.2.1 hc.2.2 q
theorem op_shr : OpR X (binaryOp .RShift) (rI (fun _ j => 0 ≤ j) fun i j => .int (i / 2 ^ j.toNat)) := opI fun i j _ _ _ _ _ hc q =>
  rshift_int hc (by rw [Int.fdiv_eq_ediv_of_nonneg i (two_pow_nn _)]; exact q)
theorem op_and : OpR X (binaryOp .BitAnd) (rI0 fun i j => .int (Builtin.bitAnd i j)) := opI0 fun _ _ _ _ _ _ _ q => and_int q
theorem unI {f : Value → Sem Value} {g : Int → Int}
    (rule : ∀ (i : Int) (t : Tok) (s : Shared) (Q : Value → Shared → Prop) (E : Value → Shared → Prop), Q (.int (g i) s.toks) { s with toks := s.toks + 1 } → wpAny (model X.prog X.w) X.A (f (.int i t)) Q E s) :
    UnR X f (rU fun i => .int (g i)) := by
  intro pins s σ H x v Q I rx h
  obtain ⟨i, rfl, q⟩ := h
  obtain ⟨t, rfl⟩ := rx
  exact rule i t s _ _ ⟨.int (g i), H, I.tok _, ⟨_, rfl⟩, q⟩
theorem un_neg : UnR X (unaryOp .USub) (rU fun i => .int (-i)) := unI fun _ _ _ _ _ q => neg_int q
end
/-! ### comparisons -/
/-- the scalars that == tells apart as data does -/
def scal : V → V → Bool
  | .non, .non => true | .non, .int _ => true | .int _, .non => true | .non, .bl _ => true | .bl _, .non => true | .non, .str _ => true | .str _, .non => true
  | .int _, .int _ => true | .bl _, .bl _ => true | .str _, .str _ => true | .byt _, .byt _ => true
  | .int _, .str _ => true | .str _, .int _ => true | .bl _, .str _ => true | .str _, .bl _ => true
  | _, _ => false
def rEq : R2 := fun x y H Q => scal x y = true ∧ Q (.bl (decide (x = y))) H
def rNe : R2 := fun x y H Q => scal x y = true ∧ Q (.bl (!decide (x = y))) H
theorem dec_int {i j : Int} : decide (V.int i = V.int j) = (i == j) := by
  rw [Bool.eq_iff_iff]
  simp
theorem dec_bl {i j : Bool} : decide (V.bl i = V.bl j) = (i == j) := by
  rw [Bool.eq_iff_iff]
  simp
theorem dec_str {i j : Str} : decide (V.str i = V.str j) = (i == j) := by
  rw [Bool.eq_iff_iff]
  simp
theorem dec_byt {i j : Array UInt8} : decide (V.byt i = V.byt j) = (i.toList == j.toList) := by
  rw [Bool.eq_iff_iff]
  cases i
  cases j
  simp
section
variable {X : Cx} {a b c : Expr} {ta tb tc : TE} {pos : Pos}
theorem fin_bl {pins : List (Addr × Obj)} {σ : St} {H : Hp} {s : Shared} {Q : VK} {k k' : Bool} (I : Inv X pins σ H s) (q : Q (.bl k) H) (e : k = k') : EP X pins σ Q (.bool k') s := by
  subst e
  exact ⟨.bl k, H, I, rfl, q⟩
theorem op_eq : OpR X (compareOp .Eq) rEq := by
  intro pins s σ H x y v u Q I rx ry h
  obtain ⟨hs, q⟩ := h
  cases x with
  | non =>
    cases rx
    cases y with
    | non => cases ry; exact PySem.EqNone.eq_none_none (fin_bl I q (by simp))
    | bl j => cases ry; exact PySem.EqNone.eq_none_bool (fin_bl I q (by simp))
    | int j => obtain ⟨t', rfl⟩ := ry; exact PySem.EqNone.eq_none_int (fin_bl I q (by simp))
    | str j => obtain ⟨t', rfl⟩ := ry; exact PySem.EqNone.eq_none_str (fin_bl I q (by simp))
    | _ => exact absurd (show false = true from hs) Bool.false_ne_true
  | bl i =>
    cases rx
    cases y with
    | non => cases ry; exact PySem.EqNone.eq_bool_none (fin_bl I q (by simp))
    | bl j => cases ry; exact eq_bool (fin_bl I q dec_bl)
    | str j => obtain ⟨t', rfl⟩ := ry; exact PySem.EqMixed.eq_bool_str (fin_bl I q (by simp))
    | _ => exact absurd (show false = true from hs) Bool.false_ne_true
  | int i =>
    obtain ⟨t, rfl⟩ := rx
    cases y with
    | non => cases ry; exact PySem.EqNone.eq_int_none (fin_bl I q (by simp))
    | int j => obtain ⟨t', rfl⟩ := ry; exact eq_int (fin_bl I q dec_int)
    | str j => obtain ⟨t', rfl⟩ := ry; exact PySem.EqMixed.eq_int_str (fin_bl I q (by simp))
    | _ => exact absurd (show false = true from hs) Bool.false_ne_true
  | str i =>
    obtain ⟨t, rfl⟩ := rx
    cases y with
    | non => cases ry; exact PySem.EqNone.eq_str_none (fin_bl I q (by simp))
    | bl j => cases ry; exact PySem.EqMixed.eq_str_bool (fin_bl I q (by simp))
    | int j => obtain ⟨t', rfl⟩ := ry; exact PySem.EqMixed.eq_str_int (fin_bl I q (by simp))
    | str j => obtain ⟨t', rfl⟩ := ry; exact eq_str (fin_bl I q dec_str)
    | _ => exact absurd (show false = true from hs) Bool.false_ne_true
  | byt i =>
    obtain ⟨t, rfl⟩ := rx
    cases y with
    | byt j => obtain ⟨t', rfl⟩ := ry; exact PySem.W.eq_bytes (fin_bl I q dec_byt)
    | _ => exact absurd (show false = true from hs) Bool.false_ne_true
  | _ => cases y <;> exact absurd (show false = true from hs) Bool.false_ne_true
theorem op_ne : OpR X (compareOp .NotEq) rNe := by
  intro pins s σ H x y v u Q I rx ry h
  obtain ⟨hs, q⟩ := h
  cases x with
  | non =>
    cases rx
    cases y with
    | non => cases ry; exact PySem.EqNone.ne_none_none (fin_bl I q (by simp))
    | bl j => cases ry; exact PySem.EqNone.ne_none_bool (fin_bl I q (by simp))
    | int j => obtain ⟨t', rfl⟩ := ry; exact PySem.EqNone.ne_none_int (fin_bl I q (by simp))
    | str j => obtain ⟨t', rfl⟩ := ry; exact PySem.EqNone.ne_none_str (fin_bl I q (by simp))
    | _ => exact absurd (show false = true from hs) Bool.false_ne_true
  | bl i =>
    cases rx
    cases y with
    | non => cases ry; exact PySem.EqNone.ne_bool_none (fin_bl I q (by simp))
    | bl j => cases ry; exact ne_bool (fin_bl I q (congrArg not dec_bl))
    | str j => obtain ⟨t', rfl⟩ := ry; exact PySem.EqMixed.ne_bool_str (fin_bl I q (by simp))
    | _ => exact absurd (show false = true from hs) Bool.false_ne_true
  | int i =>
    obtain ⟨t, rfl⟩ := rx
    cases y with
    | non => cases ry; exact PySem.EqNone.ne_int_none (fin_bl I q (by simp))
    | int j => obtain ⟨t', rfl⟩ := ry; exact ne_int (fin_bl I q (congrArg not dec_int))
    | str j => obtain ⟨t', rfl⟩ := ry; exact PySem.EqMixed.ne_int_str (fin_bl I q (by simp))
    | _ => exact absurd (show false = true from hs) Bool.false_ne_true
  | str i =>
    obtain ⟨t, rfl⟩ := rx
    cases y with
    | non => cases ry; exact PySem.EqNone.ne_str_none (fin_bl I q (by simp))
    | bl j => cases ry; exact PySem.EqMixed.ne_str_bool (fin_bl I q (by simp))
    | int j => obtain ⟨t', rfl⟩ := ry; exact PySem.EqMixed.ne_str_int (fin_bl I q (by simp))
    | str j => obtain ⟨t', rfl⟩ := ry; exact ne_str (fin_bl I q (congrArg not dec_str))
    | _ => exact absurd (show false = true from hs) Bool.false_ne_true
  | byt i =>
    obtain ⟨t, rfl⟩ := rx
    cases y with
    | byt j => obtain ⟨t', rfl⟩ := ry; exact PySem.W.ne_bytes (fin_bl I q (congrArg not dec_byt))
    | _ => exact absurd (show false = true from hs) Bool.false_ne_true
  | _ => cases y <;> exact absurd (show false = true from hs) Bool.false_ne_true
theorem op_lt : OpR X (compareOp .Lt) (rI0 fun i j => .bl (decide (i < j))) := opB0 fun _ _ _ _ _ _ _ q => lt_int q
theorem op_le : OpR X (compareOp .LtE) (rI0 fun i j => .bl (decide (i ≤ j))) := opB0 fun _ _ _ _ _ _ _ q => le_int q
theorem op_gt : OpR X (compareOp .Gt) (rI0 fun i j => .bl (decide (j < i))) := opB0 fun _ _ _ _ _ _ _ q => gt_int q
theorem op_ge : OpR X (compareOp .GtE) (rI0 fun i j => .bl (decide (j ≤ i))) := opB0 fun _ _ _ _ _ _ _ q => ge_int q
/-- is None, is not None: the right side a value none -/
theorem op_isN : OpR X (compareOp .Is) (fun x y H Q => y = .non ∧ Q (.bl (decide (x = .non))) H) := by
  intro pins s σ H x y v u Q I rx ry h
  obtain ⟨rfl, q⟩ := h
  cases ry
  refine is_none_gen (fin_bl I q ?_)
  cases x <;> first
    | (cases rx; rfl)
    | (obtain ⟨t, rfl⟩ := rx; rfl)
theorem op_notN : OpR X (compareOp .IsNot) (fun x y H Q => y = .non ∧ Q (.bl (!decide (x = .non))) H) := by
  intro pins s σ H x y v u Q I rx ry h
  obtain ⟨rfl, q⟩ := h
  cases ry
  refine isnot_none_gen (fin_bl I q ?_)
  cases x <;> first
    | (cases rx; rfl)
    | (obtain ⟨t, rfl⟩ := rx; rfl)
/-- two rules for one operation: by cases -/
theorem OpR.or {f : Value → Value → Sem Value} {r r' : R2} (h : OpR X f r) (h' : OpR X f r') : OpR X f (fun x y H Q => r x y H Q ∨ r' x y H Q) := by
  intro pins s σ H x y v u Q I rx ry q
  rcases q with q | q
  · exact h pins s σ H x y v u Q I rx ry q
  · exact h' pins s σ H x y v u Q I rx ry q
theorem nomark (b : Expr) {op : CmpOp} (h : op ≠ .In := by decide) (h2 : op ≠ .NotIn := by decide) : behindInMarks op b = false := by
  have e1 : (op == CmpOp.In) = false := by cases op <;> first | rfl | exact absurd rfl h
  have e2 : (op == CmpOp.NotIn) = false := by cases op <;> first | rfl | exact absurd rfl h2
  cases b <;> simp [behindInMarks, e1, e2]
/-- a comparison as a value; hm: nomark b, or (for in, not in) by with_unfolding_all rfl -/
theorem pe_cmpR {op : CmpOp} {r : R2} (ho : OpR X (compareOp op) r) (ha : PE X a ta) (hb : PE X b tb) (hm : behindInMarks op b = false) : PE X (.Compare a [op] [b] pos) (tOp r ta tb) := by
  intro pins s σ H Q I h
  exact wpAny_Compare1 (binT ha hb I h fun v u s2 x y H2 I2 rx ry q => ho pins s2 σ H2 x y v u Q I2 rx ry q) hm
/-- a reading of a value as a test -/
def tTest (t : TE) : TT := fun σ H Q => t σ H fun x H' => ∃ k, x = .bl k ∧ Q k H'
theorem pt_cmpR {op : CmpOp} {r : R2} (ho : OpR X (compareOp op) r) (ha : PE X a ta) (hb : PE X b tb) (hm : behindInMarks op b = false) : PT X (.Compare a [op] [b] pos) (tTest (tOp r ta tb)) := by
  intro pins s σ H Q I h
  refine wpAny_isTrue_Compare1 (thn (ha pins s σ H _ I h) fun v s1 ⟨x, H1, I1, r1, q1⟩ => thn (hb pins s1 σ H1 _ I1 q1) fun u s2 ⟨y, H2, I2, r2, q2⟩ =>
    thn (ho pins s2 σ H2 x y v u _ I2 r1 r2 q2) fun c s3 ⟨z, H3, I3, r3, k, e, q3⟩ => ?_) hm
  subst e
  cases r3
  exact wpAny_truthy_bool ⟨H3, I3, q3⟩
/-- a op1 b op2 c -/
def tChain (r r' : R2) (ta tb tc : TE) : TE := fun σ H Q => ta σ H fun x H1 => tb σ H1 fun y H2 => r x y H2 fun z H3 => ∃ k, z = .bl k ∧
  (if k = true then tc σ H3 fun w' H4 => r' y w' H4 Q else Q (.bl false) H3)
theorem pe_chain {op op' : CmpOp} {r r' : R2} (ho : OpR X (compareOp op) r) (ho' : OpR X (compareOp op') r') (ha : PE X a ta) (hb : PE X b tb) (hc : PE X c tc)
    (hm : lastMarks [op, op'] [b, c] = false := by with_unfolding_all rfl) : PE X (.Compare a [op, op'] [b, c] pos) (tChain r r' ta tb tc) := by
  intro pins s σ H Q I h
  refine Compare_chain (thn (ha pins s σ H _ I h) fun v s1 ⟨x, H1, I1, r1, q1⟩ => chain_link (thn (hb pins s1 σ H1 _ I1 q1) fun u s2 ⟨y, H2, I2, r2, q2⟩ =>
    thn (ho pins s2 σ H2 x y v u _ I2 r1 r2 q2) fun d s3 ⟨z, H3, I3, r3, k, e, q3⟩ => ?_)) hm
  subst e
  cases r3
  refine wpAny_truthy_bool ?_
  cases k with
  | false => exact ite_ff ⟨.bl false, H3, I3, rfl, q3⟩
  | true => exact ite_tt (chain_last (thn (hc pins s3 σ H3 _ I3 q3) fun w' s4 ⟨z', H4, I4, r4, q4⟩ => ho' pins s4 σ H4 y z' u w' Q I4 r2 r4 q4))
theorem pt_chain {op op' : CmpOp} {r r' : R2} (ho : OpR X (compareOp op) r) (ho' : OpR X (compareOp op') r') (ha : PE X a ta) (hb : PE X b tb) (hc : PE X c tc)
    (hm : lastMarks [op, op'] [b, c] = false := by with_unfolding_all rfl) : PT X (.Compare a [op, op'] [b, c] pos) (tTest (tChain r r' ta tb tc)) := by
  intro pins s σ H Q I h
  refine isTrue_chain (thn (ha pins s σ H _ I h) fun v s1 ⟨x, H1, I1, r1, q1⟩ => test_link (thn (hb pins s1 σ H1 _ I1 q1) fun u s2 ⟨y, H2, I2, r2, q2⟩ =>
    thn (ho pins s2 σ H2 x y v u _ I2 r1 r2 q2) fun d s3 ⟨z, H3, I3, r3, k, e, q3⟩ => ?_)) hm
  subst e
  cases r3
  refine wpAny_truthy_bool ?_
  cases k with
  | false =>
    obtain ⟨k', e', q'⟩ := q3
    cases e'
    exact ite_ff ⟨H3, I3, q'⟩
  | true =>
    refine ite_tt (test_last (thn (hc pins s3 σ H3 _ I3 q3) fun w' s4 ⟨z', H4, I4, r4, q4⟩ => thn (ho' pins s4 σ H4 y z' u w' _ I4 r2 r4 q4) fun d' s5 ⟨z2, H5, I5, r5, k2, e2, q5⟩ => ?_))
    subst e2
    cases r5
    exact wpAny_truthy_bool ⟨H5, I5, q5⟩
theorem line63 : (sizeLine : Nat) < 2 ^ 63 := by rw [sizeLine_eq]; decide
/-! ### scalar builtins, by CallR -/
theorem vals1 {x : V} {us : List Value} (r : Vals [x] us) : ∃ u, us = [u] ∧ RelV x u := by
  cases r with
  | cons r1 r2 => cases r2; exact ⟨_, rfl, r1⟩
theorem vals2 {x y : V} {us : List Value} (r : Vals [x, y] us) : ∃ u w', us = [u, w'] ∧ RelV x u ∧ RelV y w' := by
  cases r with
  | cons r1 r2 =>
    cases r2 with
    | cons r3 r4 => cases r4; exact ⟨_, _, rfl, r1, r3⟩
theorem call_int1 : CallR X (.type "int") (fun xs H Q => (∃ i, xs = [.int i] ∧ Q (.int i) H) ∨ ∃ k, xs = [.bl k] ∧ Q (.int (if k then 1 else 0)) H) := by
  intro pins s σ H xs us Q I r h
  rcases h with ⟨i, rfl, q⟩ | ⟨k, rfl, q⟩
  · obtain ⟨u, rfl, t, rfl⟩ := vals1 r
    exact call_int_int ⟨.int i, H, I, ⟨_, rfl⟩, q⟩
  · obtain ⟨u, rfl, r1⟩ := vals1 r
    cases r1
    exact call_int_bool ⟨.int (if k then 1 else 0), H, I.tok _, ⟨_, rfl⟩, q⟩
end
end L2
namespace L2
open PySem PySem.Spec PyProof.Rows
/-! ### an instance, its attributes a map -/
structure ObjM (h : Heap) (x dx C : Addr) (mA : Str → Option Value) : Prop where
  obj : h.get? x = some (PySem.W.instObj C dx)
  ns : h.Ns1 dx mA
  ne : dx ≠ x
theorem lookIn_ns {h : Heap} {dx : Addr} {mA : Str → Option Value} (n : h.Ns1 dx mA) : ∃ od, h.get? dx = some od ∧ ∀ name, PySem.W.lookIn name od = some (mA name) := by
  obtain ⟨o, es, ep, ho, hd, hk, _, hm⟩ := n
  refine ⟨o, ho, fun name => ?_⟩
  have e := hm name
  unfold nsFind findBy at e
  rw [← Array.find?_toList] at e
  unfold PySem.W.lookIn
  rw [hd]
  dsimp only
  split
  · rename_i y q
    rw [q] at e
    exact congrArg some e
  · rename_i q
    rw [q] at e
    have a : es.toList.any (·.refKey) = false := by
      rw [List.any_eq_false]
      intro y hy
      obtain ⟨z, t, hkey⟩ := hk y (Array.mem_toList_iff.mp hy)
      simp [DictEntry.refKey, hkey]
    have a' : ¬ es.toList.any (·.refKey) = true := by rw [a]; exact Bool.false_ne_true
    rw [if_neg a']
    exact congrArg some e
theorem ObjM.look {h : Heap} {x dx C : Addr} {mA : Str → Option Value} (I : ObjM h x dx C mA) : ∃ od, PySem.W.InstAt h x (PySem.W.instObj C dx) C (some od) ∧ ∀ name, PySem.W.lookIn name od = some (mA name) :=
  let ⟨od, ho, hl⟩ := lookIn_ns I.ns
  ⟨od, ⟨I.obj, rfl, rfl, ho⟩, hl⟩
section
variable {prog : Program} {w : World} {A : Around} {E : Value → Shared → Prop} {s : Shared} {K : PySem.W.Frag} {x dx C f : Addr} {mA : Str → Option Value} {name : Str} {v : Value}
theorem get_map {expr : Bool} {Q : Value → Shared → Prop} (X : K.In s.heap) (I : ObjM s.heap x dx C mA) (hg : PySem.W.plainGet K C name = true) (hh : PySem.W.hasDictIn K C = true)
    (ha : PySem.W.findIn K (.ref C) name = some none) (hv : mA name = some v) (hv' : PySem.W.handedIn v = true) (h : Q v { s with toks := s.toks + 1 }) :
    wpAny (model prog w) A (getAttr (.ref x) name expr) Q E s := by
  obtain ⟨od, J, hl⟩ := I.look
  exact PySem.W.get_value X J (PySem.W.plainGet_of hg).1 (PySem.W.findObj_own hh ha rfl (by rw [hl, hv])) hv' h
theorem get_meth {pl : Sem Bool} {Q : Value × List Value → Shared → Prop} (X : K.In s.heap) (I : ObjM s.heap x dx C mA) (hg : PySem.W.plainGet K C name = true)
    (hf : PySem.W.findIn K (.ref C) name = some (some (.ref f))) (ht : PySem.W.isFn K (.ref f) = true) (hv : mA name = none) (h : Q (.ref f, [.ref x]) s) :
    wpAny (model prog w) A (getMethod (.ref x) name pl) Q E s := by
  obtain ⟨od, J, hl⟩ := I.look
  exact PySem.W.method_fn X J (PySem.W.plainGet_of hg).1 (PySem.W.plainGet_of hg).2 hf (beq_iff_eq.mp ht) (by show (PySem.W.lookIn name od).map (·.isSome) = some false; rw [hl, hv]; rfl) h
theorem set_map {ns : List Str} {Q : Unit → Shared → Prop} (X : K.In s.heap) (I : ObjM s.heap x dx C mA)
    (hs : PySem.W.findIn K (.ref C) "__setattr__" = some (some (.builtin "object.__setattr__"))) (hp : PySem.W.plainOver K C = true) (ht : PySem.W.takerIn K C name = some none) (hh : PySem.W.hasDictIn K C = true)
    (hw : PySem.Within mA ns) (hsz : ns.length ≤ sizeLine)
    (h : ∀ h', ObjM h' x dx C (fun y => if y = name then some v else mA y) → Heap.SameBut dx s.heap h' → Q () { s with heap := h', toks := s.toks + 2 }) :
    wpAny (model prog w) A (setAttr (.ref x) name v) Q E s := by
  obtain ⟨od, J, hl⟩ := I.look
  refine PySem.W.set_plain X J hs (PySem.W.osa_open (s := { s with toks := s.toks + 1 }) (r := none) X J hp ht fun b => ?_)
  obtain ⟨cd, hc, hd'⟩ := PySem.W.any_some hh
  have hx : s.heap.get? x = some ⟨.ref C, some dx, .plain, #[]⟩ := I.obj
  refine wpAny_bind (wpAny_pure (wpAny_bind (wpAny_bind (wpAny_loadPart hx (wpAny_bind (PySem.W.Looks.here (s := { s with toks := s.toks + 1 }) (PySem.W.looks_clsIn X hc) ?_))))))
  rw [hd']
  refine wpAny_pure (a := some dx) (wpAny_bind (wpAny_pure (wpAny_bind ?_)))
  refine wpAny_nsSet1 (s := { s with toks := s.toks + 1 }) I.ns fun h' hn2 hs2 => ?_
  obtain ⟨oD, esD, epD, hoD, hdD, hcD⟩ := hn2.count (PySem.Within.cons name v hw)
  refine wpAny_bind (wpAny_lookBehind hoD (by rw [hdD]; exact pastItsLine_dict (Nat.le_trans hcD (by rw [List.length_cons]; omega))) ?_)
  exact wpAny_pure (h _ ⟨(hs2.2 _ (Ne.symm I.ne)).trans I.obj, hn2, I.ne⟩ hs2)
/-- C(..): the dict at the heap's end, the instance behind it; then its __init__ -/
theorem make_map {R : Result → Shared → Prop} {vs : List Value} {kw : List (Str × Value)} (X : K.In s.heap) (hm : PySem.W.makesIn K C = true)
    (hi : PySem.W.findIn K (.ref C) "__init__" = some (some (.ref f))) (hf : PySem.W.typeIn K (.ref f) = some (.type "function"))
    (h : codeAny (model prog w) (A.under (.builtin "type.__call__" ⟨.ref C :: vs, kw⟩)) (.call (.ref f) ⟨.ref (s.heap.objs.size + 1) :: vs, kw⟩) (PySem.W.InitBack (s.heap.objs.size + 1) R)
      { s with heap := (s.heap.push PySem.W.emptyDict).push (PySem.W.instObj C s.heap.objs.size) }) :
    codeAny (model prog w) A (.call (.ref C) ⟨vs, kw⟩) R s := by
  obtain ⟨hh, g, d, t, os⟩ := s
  exact PySem.W.make_core (PySem.W.makes_of X hm) (PySem.W.looks_findIn X hi) (fun self => PySem.W.bind_fn X self hf) (.inl rfl) h
end
/-! ### the attributes as a list of pairs -/
def putF (f : Str) (v : V) : List (Str × V) → List (Str × V)
  | [] => [(f, v)]
  | (g, x) :: r => if g = f then (g, v) :: r else (g, x) :: putF f v r
theorem lookup_putF (f g : Str) (v : V) : ∀ fs : List (Str × V), (putF f v fs).lookup g = if g = f then some v else fs.lookup g
  | [] => by
    show List.lookup g [(f, v)] = _
    by_cases h : g = f
    · have hb : (g == f) = true := beq_iff_eq.mpr h
      simp only [List.lookup, hb, if_pos h]
    · have hb : (g == f) = false := beq_eq_false_iff_ne.mpr h
      simp only [List.lookup, hb, if_neg h]
  | (k, x) :: r => by
    have ih := lookup_putF f g v r
    rw [show putF f v ((k, x) :: r) = (if k = f then (k, v) :: r else (k, x) :: putF f v r) from rfl]
    by_cases hk : k = f
    · rw [if_pos hk]
      by_cases h : g = k
      · have hb : (g == k) = true := beq_iff_eq.mpr h
        simp only [List.lookup, hb, if_pos (h.trans hk)]
      · have hb : (g == k) = false := beq_eq_false_iff_ne.mpr h
        simp only [List.lookup, hb, if_neg (fun e : g = f => h (e.trans hk.symm))]
    · rw [if_neg hk]
      by_cases h : g = k
      · have hb : (g == k) = true := beq_iff_eq.mpr h
        simp only [List.lookup, hb, if_neg (fun e : g = f => hk (h.symm.trans e))]
      · have hb : (g == k) = false := beq_eq_false_iff_ne.mpr h
        simp only [List.lookup, hb]
        exact ih
theorem keys_putF (f : Str) (v : V) : ∀ fs : List (Str × V), f ∈ (putF f v fs).map (·.1) ∧ ∀ g, g ∈ fs.map (·.1) → g ∈ (putF f v fs).map (·.1)
  | [] => ⟨by simp [putF], fun g h => by simp at h⟩
  | (k, x) :: r => by
    obtain ⟨i1, i2⟩ := keys_putF f v r
    rw [show putF f v ((k, x) :: r) = (if k = f then (k, v) :: r else (k, x) :: putF f v r) from rfl]
    by_cases hk : k = f
    · rw [if_pos hk]
      subst hk
      exact ⟨by simp, fun g h => by simpa using h⟩
    · rw [if_neg hk]
      refine ⟨?_, fun g h => ?_⟩
      · rw [List.map_cons]
        exact List.mem_cons_of_mem _ i1
      · rw [List.map_cons] at h ⊢
        rcases List.mem_cons.mp h with e | e
        · exact List.mem_cons.mpr (.inl e)
        · exact List.mem_cons_of_mem _ (i2 g e)
theorem length_putF (f : Str) (v : V) : ∀ fs : List (Str × V), (putF f v fs).length ≤ fs.length + 1
  | [] => by simp [putF]
  | (k, x) :: r => by
    have ih := length_putF f v r
    rw [show putF f v ((k, x) :: r) = (if k = f then (k, v) :: r else (k, x) :: putF f v r) from rfl]
    by_cases hk : k = f
    · rw [if_pos hk, List.length_cons, List.length_cons]; omega
    · rw [if_neg hk, List.length_cons, List.length_cons]; omega
theorem RelO.some_of {v : V} {o : Option Value} (r : RelO (some v) o) : ∃ u, o = some u ∧ RelV v u := by
  cases o with
  | none => exact (show False from r).elim
  | some u => exact ⟨u, rfl, r⟩
theorem RelO.none_of {o : Option Value} (r : RelO none o) : o = none := by
  cases o with
  | none => rfl
  | some u => exact (show False from r).elim
theorem handed_of {v : V} {u : Value} (r : RelV v u) : PySem.W.handedIn u = true := by
  cases v with
  | non => cases (show u = Value.none from r); rfl
  | bl b => cases (show u = Value.bool b from r); rfl
  | int i => obtain ⟨t, e⟩ := (show ∃ t, u = Value.int i t from r); cases e; rfl
  | str x => obtain ⟨t, e⟩ := (show ∃ t, u = Value.str x t from r); cases e; rfl
  | byt b => obtain ⟨t, e⟩ := (show ∃ t, u = Value.bytes b t from r); cases e; rfl
  | flt b => obtain ⟨t, e⟩ := (show ∃ t, u = Value.float b t from r); cases e; rfl
  | ref a => cases (show u = Value.ref a from r); rfl
  | ty n => cases (show u = Value.type n from r); rfl
section
variable {P : Program} {w : World} {H H' : Hp} {h h' : Heap} {a C dx : Addr} {fs fs' : List (Str × V)}
theorem ins_get (hok : HOk P w H h) (e : H a = some (.ins C dx fs)) : ∃ mA, ObjM h a dx C mA ∧ (∀ f, RelO (fs.lookup f) (mA f)) ∧ PySem.Within mA (fs.map (·.1)) ∧ fs.length ≤ 1000 ∧ H dx = some (.own a) := by
  obtain ⟨d, z, ne, ob, mA, n, r, q⟩ := (show ObjOk P w H h a (.ins C dx fs) from hok a _ e)
  exact ⟨mA, ⟨ob, n, ne⟩, r, q, z, d⟩
end
/-! ### what of the text a class must have -/
structure Cls (K : PySem.W.Frag) (C : Addr) : Prop where
  pg : PySem.W.plainGet K C Str.empty = true
  hd : PySem.W.hasDictIn K C = true
  po : PySem.W.plainOver K C = true
  sa : PySem.W.findIn K (.ref C) "__setattr__" = some (some (.builtin "object.__setattr__"))
theorem Cls.get {K : PySem.W.Frag} {C : Addr} (c : Cls K C) (f : Str) : PySem.W.plainGet K C f = true := c.pg
/-- no class of it has the name -/
def NoAttr (K : PySem.W.Frag) (C : Addr) (f : Str) : Prop := PySem.W.findIn K (.ref C) f = some none
theorem NoAttr.taker {K : PySem.W.Frag} {C : Addr} {f : Str} (n : NoAttr K C f) : PySem.W.takerIn K C f = some none := by
  unfold PySem.W.takerIn
  rw [show PySem.W.findIn K (.ref C) f = some none from n]
  rfl
/-- a method: a plain def of the class or of one above it -/
structure Meth (K : PySem.W.Frag) (C : Addr) (m : Str) (f : Addr) : Prop where
  at_ : PySem.W.findIn K (.ref C) m = some (some (.ref f))
  fn : PySem.W.isFn K (.ref f) = true
  kp : PySem.W.keepIn K (.ref f) = true
section
variable {X : Cx} {pins : List (Addr × Obj)} {σ : St} {H : Hp} {s : Shared} {a C dx : Addr} {fs : List (Str × V)} {f : Str} {v : V} {A : Around} {E : Value → Shared → Prop}
theorem getattr_ok {b : Bool} {Q : Value → Shared → Prop} (I : Inv X pins σ H s) (e : H a = some (.ins C dx fs)) (c : Cls X.K C) (n : NoAttr X.K C f) (l : fs.lookup f = some v)
    (h : ∀ u s', Inv X pins σ H s' → RelV v u → Q u s') : wpAny (model X.prog X.w) A (getAttr (.ref a) f b) Q E s := by
  obtain ⟨mA, O, r, _, _, _⟩ := ins_get I.hok e
  obtain ⟨u, hu, ru⟩ := RelO.some_of (v := v) (o := mA f) (by rw [← l]; exact r f)
  exact get_map I.kIn O (c.get f) c.hd n hu (handed_of ru) (h u _ (I.tok _) ru)
theorem getmeth_ok {m : Str} {g : Addr} {pl : Sem Bool} {Q : Value × List Value → Shared → Prop} (I : Inv X pins σ H s) (e : H a = some (.ins C dx fs)) (c : Cls X.K C) (k : Meth X.K C m g) (l : fs.lookup m = none)
    (h : Q (.ref g, [.ref a]) s) : wpAny (model X.prog X.w) A (getMethod (.ref a) m pl) Q E s := by
  obtain ⟨mA, O, r, _, _, _⟩ := ins_get I.hok e
  have hn : mA m = none := RelO.none_of (by rw [← l]; exact r m)
  exact get_meth I.kIn O (c.get m) k.at_ k.fn hn h
theorem setattr_ok {y : V} {u : Value} {Q : Unit → Shared → Prop} (I : Inv X pins σ H s) (e : H a = some (.ins C dx fs)) (c : Cls X.K C) (n : NoAttr X.K C f) (hl : fs.length < 1000) (ry : RelV y u)
    (h : ∀ s', Inv X pins σ (upd H a (.ins C dx (putF f y fs))) s' → Q () s') : wpAny (model X.prog X.w) A (setAttr (.ref a) f u) Q E s := by
  obtain ⟨mA, O, r, wi, _, ho⟩ := ins_get I.hok e
  have hz : (fs.map (·.1)).length ≤ sizeLine := by rw [List.length_map, sizeLine_eq]; omega
  refine set_map I.kIn O c.sa c.po n.taker c.hd wi hz fun h' O' sb => h _ ?_
  have hd : ∃ o, h'.get? dx = some o := let ⟨o, _, _, e', _⟩ := O'.ns; ⟨o, e'⟩
  refine I.write (x := a) (e := dx) (by rw [e]; exact True.intro) (.inr ho) (fun b q hb z => (sb.2 b hb).trans z) hd ?_
  refine ⟨by rw [upd_ne O.ne]; exact ho, ?_, O.ne, O'.obj, _, O'.ns, fun g => ?_, fun g hg => ?_⟩
  · have := length_putF f y fs; omega
  · show RelO ((putF f y fs).lookup g) (if g = f then some u else mA g)
    rw [lookup_putF]
    by_cases q : g = f
    · rw [if_pos q, if_pos q]; exact ry
    · rw [if_neg q, if_neg q]; exact r g
  · by_cases q : g = f
    · rw [q]; exact (keys_putF f y fs).1
    · refine (keys_putF f y fs).2 g (wi g fun z => hg ?_)
      show (if g = f then some u else mA g) = none
      rw [if_neg q]; exact z
/-- a new instance, tracked, without attributes -/
theorem Inv.made (I : Inv X pins σ H s) : Inv X pins σ (upd (upd H s.heap.objs.size (.own (s.heap.objs.size + 1))) (s.heap.objs.size + 1) (.ins C s.heap.objs.size []))
    { s with heap := (s.heap.push PySem.W.emptyDict).push (PySem.W.instObj C s.heap.objs.size) } := by
  have e1 : (s.heap.push PySem.W.emptyDict).get? s.heap.objs.size = some PySem.W.emptyDict := Heap.get?_push_size s.heap rfl
  have e2 : ((s.heap.push PySem.W.emptyDict).push (PySem.W.instObj C s.heap.objs.size)).get? (s.heap.objs.size + 1) = some (PySem.W.instObj C s.heap.objs.size) := by
    have := Heap.get?_push_size (s.heap.push PySem.W.emptyDict) (o := PySem.W.instObj C s.heap.objs.size) rfl
    rwa [Heap.size_push] at this
  have e3 : (s.heap.push PySem.W.emptyDict).Ns s.heap.objs.size (fun _ => none) := ⟨PySem.W.emptyDict, #[], _, e1, rfl, (fun e he => absurd he (by simp)), fun _ => rfl⟩
  have I1 := I.laid (a := s.heap.objs.size) (o := .own (s.heap.objs.size + 1)) (h' := s.heap.push PySem.W.emptyDict) (t' := s.toks) (fun b u q => Heap.get?_push_of_some _ q) (Nat.le_refl _) ⟨_, e1⟩
  refine I1.laid (a := s.heap.objs.size + 1) (o := .ins C s.heap.objs.size []) (t' := s.toks) (fun b u q => Heap.get?_push_of_some _ q) (Nat.le_of_eq (Heap.size_push _ _)) ?_
  have ne : s.heap.objs.size ≠ s.heap.objs.size + 1 := Nat.ne_of_lt (Nat.lt_succ_self _)
  refine ⟨by rw [upd_ne ne, upd_same], Nat.zero_le _, ne, e2, fun _ => none, (Heap.Ns1.of_empty e3).at fun o q => Heap.get?_push_of_some _ q, fun _ => True.intro, fun y hy => absurd rfl hy⟩
/-- e.f where nothing but the object is asked: through attributeBase (super) and the last hold -/
theorem attr_of {prog : Program} {w : World} {env : Env} {e : Expr} {f : Str} {pos : Pos} {s : Shared} {Q : Value → Shared → Prop} (hb : attributeBase e f env (eval e env) = eval e env)
    (h : wpAny (model prog w) A (eval e env) (fun o s₁ => wpAny (model prog w) A (getAttr o f true) Q E s₁) E s) : wpAny (model prog w) A (eval (.Attribute e f pos) env) Q E s :=
  Attribute_any_ h (by rw [arm_eval_Attribute, hb])
end
/-! ### readings and rules -/
/-- e.f, an attribute of the instance -/
def tFld (K : PySem.W.Frag) (ta : TE) (f : Str) : TE := fun σ H Q => ta σ H fun x H1 => ∃ a C dx fs v, x = .ref a ∧ H1 a = some (.ins C dx fs) ∧ Cls K C ∧ NoAttr K C f ∧ fs.lookup f = some v ∧ Q v H1
section
variable {X : Cx} {o e value : Expr} {f : Str} {pos pos' tpos : Pos} {ta tv : TE}
theorem pe_fld (he : PE X e ta) (hb : attributeBase e f X.env (eval e X.env) = eval e X.env) : PE X (.Attribute e f pos) (tFld X.K ta f) := by
  intro pins s σ H Q I h
  refine attr_of hb (thn (he pins s σ H _ I h) fun u s1 ⟨x, H1, I1, rx, a, C, dx, fs, v, ex, ea, c, n, l, q⟩ => ?_)
  subst ex
  obtain rfl : u = Value.ref a := rx
  exact getattr_ok I1 ea c n l fun u' s2 I2 ru => ⟨v, H1, I2, ru, q⟩
end
/-! ### isinstance -/
section
variable {X : Cx} {pins : List (Addr × Obj)} {σ : St} {H : Hp} {s : Shared} {A : Around} {E : Value → Shared → Prop} {Q : Value → Shared → Prop} {c : Value} {b : Bool}
/-- the type of a value, as the fragment's deciders take it; for an instance its class -/
inductive TyOf (K : PySem.W.Frag) (H : Hp) : V → Value → Prop where
  | non : TyOf K H .non (.type "NoneType")
  | bl (x : Bool) : TyOf K H (.bl x) (.type "bool")
  | int (i : Int) : TyOf K H (.int i) (.type "int")
  | str (x : Str) : TyOf K H (.str x) (.type "str")
  | flt (x : UInt64) : TyOf K H (.flt x) (.type "float")
  | lst {a : Addr} {xs : List V} (e : H a = some (.lst xs)) : TyOf K H (.ref a) (.type "list")
  | frz {a : Addr} {o : Obj} {xs : List V} (e : H a = some (.frz o (.lst xs))) : TyOf K H (.ref a) (.type "list")
  | tup {a : Addr} {xs : List V} (e : H a = some (.tup xs)) : TyOf K H (.ref a) (.type "tuple")
  | dK {a : Addr} {kvs : List (Key × V)} (e : H a = some (.dK kvs)) : TyOf K H (.ref a) (.type "dict")
  | dT {a : Addr} {kvs : List (List Key × V)} (e : H a = some (.dT kvs)) : TyOf K H (.ref a) (.type "dict")
  | ins {a C dx : Addr} {fs : List (Str × V)} (e : H a = some (.ins C dx fs)) (cl : Cls K C) (ha : PySem.W.findIn K (.ref C) "__class__" = some (some (.builtin "object.__class__")))
      (hn : PySem.W.specialIn K (.builtin "object.__class__") "__get__" = some (some (.builtin "getset_descriptor.__get__"))) (htk : PySem.W.takesIn K (.builtin "object.__class__") = some true)
      (hm : PySem.W.mroIn K C (.type "object") = some true) : TyOf K H (.ref a) (.ref C)
/-- isinstance(x, c) for one class c, a built-in or an own one: kitOne's answer -/
theorem isinst_ok {x : V} {u t : Value} (I : Inv X pins σ H s) (rx : RelV x u) (ty : TyOf X.K H x t) (e : PySem.W.kitOne X.K t c = some b) (h : ∀ tk, Q (.bool b) { s with toks := tk }) :
    wpAny (model X.prog X.w) A (call (.builtin "isinstance") [u, c]) Q E s := by
  cases ty with
  | non => cases (show u = Value.none from rx); exact PySem.W.kia_one PySem.W.kitx_none I.kIn True.intro e (fun z => nomatch z) h
  | bl y => cases (show u = Value.bool y from rx); exact PySem.W.kia_one PySem.W.kitx_bool I.kIn True.intro e (fun z => nomatch z) h
  | int i => obtain ⟨t, q⟩ := (show ∃ t, u = Value.int i t from rx); cases q; exact PySem.W.kia_one PySem.W.kitx_int I.kIn True.intro e (fun z => nomatch z) h
  | str y => obtain ⟨t, q⟩ := (show ∃ t, u = Value.str y t from rx); cases q; exact PySem.W.kia_one PySem.W.kitx_str I.kIn True.intro e (fun z => nomatch z) h
  | flt y => obtain ⟨t, q⟩ := (show ∃ t, u = Value.float y t from rx); cases q; exact PySem.W.kia_one PySem.W.kitx_float I.kIn True.intro e (fun z => nomatch z) h
  | @lst a xs ea =>
    cases (show u = Value.ref a from rx)
    obtain ⟨_, _, n, _, h1⟩ := (show ObjOk X.prog X.w H s.heap a (.lst xs) from I.hok a _ ea)
    exact PySem.W.kia_one PySem.W.kitx_list I.kIn ⟨_, h1, rfl⟩ e (fun z => nomatch z) h
  | @frz a ob xs ea =>
    cases (show u = Value.ref a from rx)
    obtain ⟨_, _, _, n, _, h1⟩ := (show ObjOk X.prog X.w H s.heap a (.frz ob (.lst xs)) from I.hok a _ ea)
    exact PySem.W.kia_one PySem.W.kitx_list I.kIn ⟨_, h1, rfl⟩ e (fun z => nomatch z) h
  | @tup a xs ea =>
    cases (show u = Value.ref a from rx)
    obtain ⟨_, _, _, p⟩ := (show ObjOk X.prog X.w H s.heap a (.tup xs) from I.hok a _ ea)
    obtain ⟨o, h1, h2, _⟩ := p
    exact PySem.W.kia_one PySem.W.kitx_tuple I.kIn ⟨o, h1, h2⟩ e (fun z => nomatch z) h
  | @dK a kvs ea =>
    cases (show u = Value.ref a from rx)
    obtain ⟨_, _, vs, _, p⟩ := (show ObjOk X.prog X.w H s.heap a (.dK kvs) from I.hok a _ ea)
    obtain ⟨o, es, ep, h1, h2, _⟩ := p
    exact PySem.W.kia_one PySem.W.kitx_dict I.kIn ⟨o, h1, h2.1⟩ e (fun z => nomatch z) h
  | @dT a kvs ea =>
    cases (show u = Value.ref a from rx)
    obtain ⟨_, _, xs, _, o, es, ep, h1, h2, _⟩ := (show ObjOk X.prog X.w H s.heap a (.dT kvs) from I.hok a _ ea)
    exact PySem.W.kia_one PySem.W.kitx_dict I.kIn ⟨o, h1, h2.1⟩ e (fun z => nomatch z) h
  | @ins a C dx fs ea cl ha hn htk hm =>
    cases (show u = Value.ref a from rx)
    obtain ⟨mA, O, _⟩ := ins_get I.hok ea
    obtain ⟨od, J, _⟩ := O.look
    exact PySem.W.kia_one (PySem.W.kitx_own (cl.get _) cl.hd ha hn htk hm) I.kIn J e (fun z => nomatch z) h
end
end L2
namespace L2
open PySem PySem.Spec PyProof.Rows
/-! ### room -/
structure Room (k : Nat) (A : Around) : Prop where
  hd : A.handled = none
  dp : A.depth + 3 * k + 5 < recursionLimit
  un : A.units + 16 * k + 200 < cLine
theorem Room.mono {j k : Nat} {A : Around} (r : Room k A) (h : j ≤ k) : Room j A := ⟨r.hd, by have := r.dp; omega, by have := r.un; omega⟩
theorem Room.deeper {k : Nat} {A : Around} (r : Room (k + 1) A) (env : Env) : Room k (A.deeper env) :=
  ⟨r.hd, by have := r.dp; show A.depth + 1 + 3 * k + 5 < _; omega, by have := r.un; show A.units + 3 + 16 * k + 200 < _; omega⟩
theorem Room.in1 {k : Nat} {A : Around} (r : Room (k + 1) A) : Room k A.in1 :=
  ⟨r.hd, by have := r.dp; show A.depth + 3 * k + 5 < _; omega, by have := r.un; show A.units + 1 + 16 * k + 200 < _; omega⟩
theorem make_depth {A : Around} {C : Addr} {us : List Value} {kw : List (Str × Value)} : (A.under (.builtin "type.__call__" ⟨.ref C :: us, kw⟩)).depth = A.depth + 1 := by
  first | rfl | simp [Around.under, Code.weight, Code.isCreation, Code.isGuard, Code.isCaller, Code.frames, Code.isFrame, guardIds]
theorem make_units {A : Around} {C : Addr} {us : List Value} {kw : List (Str × Value)} : (A.under (.builtin "type.__call__" ⟨.ref C :: us, kw⟩)).units = A.units + 1 := by
  first | rfl | simp [Around.under, Code.cUnits, Code.frames, Code.isFrame]
theorem Room.make {k : Nat} {A : Around} (r : Room (k + 1) A) (C : Addr) (us : List Value) (kw : List (Str × Value)) : Room k (A.under (.builtin "type.__call__" ⟨.ref C :: us, kw⟩)) :=
  ⟨r.hd, by have := r.dp; rw [make_depth]; omega, by have := r.un; rw [make_units]; omega⟩
theorem Room.depth {k : Nat} {A : Around} (r : Room k A) : A.depth < recursionLimit := by have := r.dp; omega
theorem Room.units {k : Nat} {A : Around} (r : Room k A) : A.units + 64 < cLine := by have := r.un; omega
/-! ### argument lists and displays -/
def tNil : TA := fun _ H Q => Q [] H
def tCons (ta : TE) (tr : TA) : TA := fun σ H Q => ta σ H fun x H1 => tr σ H1 fun xs H2 => Q (x :: xs) H2
section
variable {X : Cx} {e : Expr} {es : List Expr} {te : TE} {t : TA} {pos : Pos}
theorem pa_nil : PA X [] tNil := fun _ _ _ _ H Q I h => Calls.spliced_nil ⟨[], H, I, .nil, h⟩
theorem pa_cons (ha : PE X e te) (hr : PA X es t) (hs : starEach (e :: es) X.env = (false, eval e X.env) :: starEach es X.env := by rfl) : PA X (e :: es) (tCons te t) := by
  intro pos pins s σ H Q I h
  rw [hs]
  show wpAny _ _ (spliced ((false, eval e X.env) :: backTo pos (starEach es X.env))) _ _ s
  refine Calls.spliced_cons (thn (ha pins s σ H _ I h) fun u s1 ⟨x, H1, I1, r1, q1⟩ => ?_)
  exact thn (hr pos pins s1 σ H1 _ I1 q1) fun us s2 ⟨xs, H2, I2, r2, q2⟩ => ⟨x :: xs, H2, I2, .cons r1 r2, q2⟩
/-- a tuple, a list of written items -/
def tTup (t : TA) : TE := fun σ H Q => t σ H fun xs H1 => xs.length ≤ sizeLine ∧ ∀ p, H1 p = none → Q (.ref p) (upd H1 p (.tup xs))
def tLst (t : TA) : TE := fun σ H Q => t σ H fun xs H1 => xs.length ≤ sizeLine ∧ ∀ p, H1 p = none → Q (.ref p) (upd H1 p (.lst xs))
end
/-! ### what a def promises -/
/-- a def's promise: the bound arguments in the parameters' order, the heap, the wanted end, the wanted exception -/
abbrev Sp := List V → Hp → VK → XK → Prop
/-- how an exception lies behind a call (file 08 gives it): the callers' frames, abstract heap and state ahead of the call, the wish, the exception, the state -/
abbrev CXT := List Env → Hp → Shared → XK → Value → Shared → Prop
/-- the state at a call -/
structure Env0 (P : Program) (w : World) (K : PySem.W.Frag) (mg : Str → Option Value) (base : Heap) (A : Around) (outer : List Env) (s : Shared) (H : Hp) : Prop where
  frames : A.frames = some outer
  mod : Mod K mg base
  bs : ∀ b o, base.get? b = some o → s.heap.get? b = some o ∧ H b = none
  bsz : base.objs.size ≤ s.heap.objs.size
  funs : s.heap.FunFrames base outer
  frf : ∀ b ∈ frs outer, H b = none
  hok : HOk P w H s.heap
  bare : AllBare s.gens
/-- a call's end -/
def CE (outer : List Env) (P : Program) (w : World) (H : Hp) (s : Shared) (Q : VK) (u : Value) (s' : Shared) : Prop :=
  ∃ v H', s'.os = s.os ∧ AllBare s'.gens ∧ Un (frs outer) [] H H' s.heap s'.heap ∧ HOk P w H' s'.heap ∧ RelV v u ∧ Q v H'
def CR (CX : CXT) (outer : List Env) (P : Program) (w : World) (H : Hp) (s : Shared) (Q : VK) (E : XK) (r : Result) (s' : Shared) : Prop :=
  match r with
  | .ok (.ret u) => CE outer P w H s Q u s'
  | .ok _ => False
  | .error e => CX outer H s E e s'
structure FnOk (P : Program) (w : World) (K : PySem.W.Frag) (mg : Str → Option Value) (base : Heap) (CX : CXT) (k : Nat) (f : Addr) (fd : FuncData) (ps : List Str) (sp : Sp) : Prop where
  len : ∀ vs H Q E, sp vs H Q E → vs.length = ps.length
  run : ∀ (A : Around) (outer : List Env) (s : Shared) (H : Hp) (args : Args) (us : List Value) (vs : List V) (Q : VK) (E : XK), Room k A → Env0 P w K mg base A outer s H → BindsTo s fd args (ps.zip us) → Vals vs us → sp vs H Q E →
    codeAny (model P w) A (.call (.ref f) args) (CR CX outer P w H s Q E) s
theorem FnOk.mono {P : Program} {w : World} {K : PySem.W.Frag} {mg : Str → Option Value} {base : Heap} {CX : CXT} {j k : Nat} {f : Addr} {fd : FuncData} {ps : List Str} {sp : Sp} (F : FnOk P w K mg base CX j f fd ps sp) (h : j ≤ k) :
    FnOk P w K mg base CX k f fd ps sp := ⟨F.len, fun A outer s H args us vs Q E hr => F.run A outer s H args us vs Q E (hr.mono h)⟩
/-- a weaker promise -/
theorem FnOk.imp {P : Program} {w : World} {K : PySem.W.Frag} {mg : Str → Option Value} {base : Heap} {CX : CXT} {k : Nat} {f : Addr} {fd : FuncData} {ps : List Str} {sp sp' : Sp} (F : FnOk P w K mg base CX k f fd ps sp)
    (h : ∀ vs H Q E, sp' vs H Q E → sp vs H Q E) : FnOk P w K mg base CX k f fd ps sp' :=
  ⟨fun vs H Q E q => F.len vs H Q E (h _ _ _ _ q), fun A outer s H args us vs Q E hr he hb hv hs => F.run A outer s H args us vs Q E hr he hb hv (h _ _ _ _ hs)⟩
theorem Env0.make {P : Program} {w : World} {K : PySem.W.Frag} {mg : Str → Option Value} {base : Heap} {A : Around} {outer : List Env} {s : Shared} {H : Hp} (e : Env0 P w K mg base A outer s H) (C : Addr) (us : List Value) (kw : List (Str × Value)) :
    Env0 P w K mg base (A.under (.builtin "type.__call__" ⟨.ref C :: us, kw⟩)) outer s H := ⟨by first | exact e.frames | (simpa [Around.under, Code.envs, Code.isFrame, pushEnvs] using e.frames), e.mod, e.bs, e.bsz, e.funs, e.frf, e.hok, e.bare⟩
theorem Env0.in1 {P : Program} {w : World} {K : PySem.W.Frag} {mg : Str → Option Value} {base : Heap} {A : Around} {outer : List Env} {s : Shared} {H : Hp} (e : Env0 P w K mg base A outer s H) :
    Env0 P w K mg base A.in1 outer s H := ⟨e.frames, e.mod, e.bs, e.bsz, e.funs, e.frf, e.hok, e.bare⟩
section
variable {X : Cx} {pins : List (Addr × Obj)} {σ : St} {H : Hp} {s s' : Shared}
/-- from a body: what a callee wants -/
theorem Inv.env0 (I : Inv X pins σ H s) : Env0 X.prog X.w X.K X.mg X.base X.A X.stack s H :=
  ⟨I.ok.frames, I.ok.mod, I.bs, Nat.le_trans I.ok.bsz I.sz, I.stack, I.stkFree, I.hok, I.bare⟩
/-- behind a call -/
theorem Inv.after {Q : VK} {u : Value} (I : Inv X pins σ H s) (h : CE X.stack X.prog X.w H s Q u s') : EP X pins σ Q u s' := by
  obtain ⟨v, H', os, bare, un, hok, r, q⟩ := h
  obtain ⟨hh, g, d, t, os'⟩ := s'
  obtain rfl : os' = s.os := os
  exact ⟨v, H', I.call (h' := hh) (g' := g) (d' := d) (t' := t) (ch := []) un hok bare (fun b z => absurd z (by simp)), r, q⟩
end
/-! ### calls -/
/-- f(..): the written arguments, then the defaults dvs; E: what is wanted of an exception -/
def tCall (sp : Sp) (dvs : List V) (E : XK) (t : TA) : TE := fun σ H Q => t σ H fun vs H1 => sp (vs ++ dvs) H1 Q E
/-- how the parameters are bound: us the positional arguments, kw the keywords' values by name, ds the defaults that fill up -/
def Binds (K : PySem.W.Frag) (fd : FuncData) (ps : List Str) (ds : List Value) : Prop :=
  ∀ (s : Shared) (us : List Value), K.In s.heap → (us ++ ds).length = ps.length → BindsTo s fd ⟨us, []⟩ (ps.zip (us ++ ds))
/-- every parameter is given -/
theorem Binds.all {K : PySem.W.Frag} {fd : FuncData} {ps : List Str} (h : ∀ us : List Value, us.length = ps.length → bindArgs fd ⟨us, []⟩ = pure (ps.zip us)) : Binds K fd ps [] := fun s us _ hl => by
  rw [List.append_nil] at hl ⊢
  exact .of_eq (h us hl)
/-- an exception of a callee reaches what this body wants of exceptions -/
def Passes (CX : CXT) (X : Cx) (E : XK) : Prop := ∀ (pins : List (Addr × Obj)) (σ : St) (H : Hp) (s : Shared) (e : Value) (s' : Shared), Inv X pins σ H s → CX X.stack H s E e s' → X.xe e s'
section
variable {X : Cx} {CX : CXT} {k : Nat} {f C : Addr} {fd : FuncData} {ps : List Str} {sp : Sp} {dvs : List V} {ds : List Value} {E : XK} {x m : Str} {p pos apos : Pos} {e o : Expr} {es : List Expr} {ta : TE} {t : TA}
/-- the callee runs -/
theorem run_fn {pins : List (Addr × Obj)} {σ : St} {H : Hp} {s : Shared} {Q : VK} {us : List Value} {vs : List V} (F : FnOk X.prog X.w X.K X.mg X.base CX k f fd ps sp) (hr : Room k X.A) (hb : Binds X.K fd ps ds) (hd : Vals dvs ds) (hx : Passes CX X E)
    (I : Inv X pins σ H s) (r : Vals vs us) (h : sp (vs ++ dvs) H Q E) : wpAny (model X.prog X.w) X.A (call (.ref f) us) (EP X pins σ Q) X.xe s := by
  have r2 : Vals (vs ++ dvs) (us ++ ds) := r.append hd
  have hl : (us ++ ds).length = ps.length := by rw [← r2.length]; exact F.len _ _ _ _ h
  refine wpAny_call (codeAny_mono (F.run X.A X.stack s H ⟨us, []⟩ (us ++ ds) (vs ++ dvs) Q E hr I.env0 (hb s us I.kIn hl) r2 h) fun r s' hq => ?_)
  cases r with
  | error e => exact hx pins σ H s e s' I hq
  | ok fl =>
    cases fl with
    | ret u => exact I.after hq
    | next => exact False.elim hq
    | brk => exact False.elim hq
    | cont => exact False.elim hq
theorem pe_call (F : FnOk X.prog X.w X.K X.mg X.base CX k f fd ps sp) (hr : Room k X.A) (hg : Gl X x) (hm : X.mg x = some (.ref f)) (hk : PySem.W.keepIn X.K (.ref f) = true) (hb : Binds X.K fd ps ds) (hd : Vals dvs ds) (hx : Passes CX X E)
    (ha : PA X (e :: es) t) (hdb : (x == ("__debug__" : Str)) = false := by decide) (he : starEach (e :: es) X.env = (false, eval e X.env) :: starEach es X.env := by rfl) (hpl : (backTo pos (starEach es X.env)).any (·.1) = false := by rfl) :
    PE X (.Call (.Name x p) (e :: es) [] pos) (tCall sp dvs E t) := by
  intro pins s σ H Q I h
  refine wpAny_Call_Name_kw (ld_glob I hg hm ?_ hdb)
  refine PySem.W.callWith_K (h₀ := X.base) I.ok.mod.kin hk (thn (ha pos pins s σ H _ I h) fun us s1 ⟨vs, H1, I1, r, q⟩ => ⟨I1.kIn, ?_⟩) he hpl
  exact run_fn F hr hb hd hx I1 r q
/-- what a class must have to be made -/
structure Mk (K : PySem.W.Frag) (C f : Addr) : Prop where
  makes : PySem.W.makesIn K C = true
  init : PySem.W.findIn K (.ref C) "__init__" = some (some (.ref f))
  fn : PySem.W.isFn K (.ref f) = true
  kp : PySem.W.keepIn K (.ref C) = true
theorem run_make {pins : List (Addr × Obj)} {σ : St} {H : Hp} {s : Shared} {Q : VK} {us : List Value} {vs : List V} (M : Mk X.K C f) (F : FnOk X.prog X.w X.K X.mg X.base CX k f fd ps sp) (hr : Room (k + 1) X.A) (hb : Binds X.K fd ps ds) (hd : Vals dvs ds)
    (hx : Passes CX X E) (I : Inv X pins σ H s) (r : Vals vs us)
    (h : ∀ x dx, H x = none → H dx = none → dx ≠ x → sp (.ref x :: (vs ++ dvs)) (upd (upd H dx (.own x)) x (.ins C dx [])) (fun v H2 => v = .non ∧ Q (.ref x) H2) E) :
    wpAny (model X.prog X.w) X.A (call (.ref C) us) (EP X pins σ Q) X.xe s := by
  have hq := h (s.heap.objs.size + 1) s.heap.objs.size (I.hok.fresh (Nat.le_succ _)) (I.hok.fresh (Nat.le_refl _)) (Nat.ne_of_lt (Nat.lt_succ_self _))
  have I2 := Inv.made (C := C) I
  have r2 : Vals (V.ref (s.heap.objs.size + 1) :: (vs ++ dvs)) (Value.ref (s.heap.objs.size + 1) :: (us ++ ds)) := .cons rfl (r.append hd)
  have hl : (Value.ref (s.heap.objs.size + 1) :: us ++ ds).length = ps.length := by
    have e := r2.length
    rw [F.len _ _ _ _ hq] at e
    exact e.symm
  refine wpAny_call (make_map (f := f) I.kIn M.makes M.init (beq_iff_eq.mp M.fn) (codeAny_mono (F.run _ X.stack _ _ ⟨Value.ref (s.heap.objs.size + 1) :: us, []⟩ (Value.ref (s.heap.objs.size + 1) :: (us ++ ds)) _ _ E (hr.make C us [])
    (I2.env0.make C us []) (hb _ (Value.ref (s.heap.objs.size + 1) :: us) I2.kIn hl) r2 hq) fun r s' hq' => ?_))
  cases r with
  | error e => exact hx pins σ _ _ e s' I2 hq'
  | ok fl =>
    cases fl with
    | ret u =>
      obtain ⟨v, H', I3, rv, ev, q3⟩ := I2.after hq'
      subst ev
      exact ⟨rv, ⟨V.ref (s.heap.objs.size + 1), H', I3, rfl, q3⟩⟩
    | next => exact False.elim hq'
    | brk => exact False.elim hq'
    | cont => exact False.elim hq'
end
/-! ### keywords -/
/-- the values of the keywords, from the left -/
def PK (X : Cx) (kws : List Keyword) (t : TA) : Prop :=
  ∀ (pos : Pos) (pins : List (Addr × Obj)) (s : Shared) (σ : St) (H : Hp) (Q : List V → Hp → Prop), Inv X pins σ H s → t σ H Q → wpAny (model X.prog X.w) X.A (evalAll ((backToKw pos (keywordEach kws X.env)).map (·.2))) (AP X pins σ Q) X.xe s
section
variable {X : Cx} {CX : CXT} {k : Nat} {f C : Addr} {fd : FuncData} {ps ks : List Str} {sp : Sp} {E : XK} {x m : Str} {p pos apos kpos : Pos} {e o : Expr} {es : List Expr} {kws : List Keyword} {te ta : TE} {t tk : TA} {nm : Option Str}
theorem pk_nil : PK X [] tNil := fun _ _ _ _ H Q I h => wpAny_evalAll_nil ⟨[], H, I, .nil, h⟩
theorem pk_cons (ha : PE X e te) (hr : PK X kws t) : PK X (⟨nm, e, kpos⟩ :: kws) (tCons te t) := by
  intro pos pins s σ H Q I h
  show wpAny _ _ (evalAll ((do let v ← eval e X.env; standAt pos; pure v) :: (backToKw pos (keywordEach kws X.env)).map (·.2))) _ _ s
  refine wpAny_evalAll_cons (wpAny_bind (thn (ha pins s σ H _ I h) fun u s1 ⟨x, H1, I1, r1, q1⟩ => wpAny_bind (wpAny_standAt (wpAny_pure ?_))))
  exact thn (hr pos pins s1 σ H1 _ I1 q1) fun us s2 ⟨xs, H2, I2, r2, q2⟩ => ⟨x :: xs, H2, I2, .cons r1 r2, q2⟩
/-- how a call with keywords binds: g puts the positional values us and the keywords' values ws (names ks) in the parameters' order, defaults among them -/
structure KBinds (K : PySem.W.Frag) (fd : FuncData) (ps ks : List Str) (g : List Value → List Value → List Value) (gV : List V → List V → List V) : Prop where
  to : ∀ (s : Shared) (us ws : List Value), K.In s.heap → (g us ws).length = ps.length → BindsTo s fd ⟨us, ks.zip ws⟩ (ps.zip (g us ws))
  rel : ∀ {vs : List V} {us : List Value} {zs : List V} {ws : List Value}, Vals vs us → Vals zs ws → Vals (gV vs zs) (g us ws)
variable {g : List Value → List Value → List Value} {gV : List V → List V → List V}
end
/-! ### a def's body keeps its promise -/
/-- names: the parameters first -/
structure FnScope (N P : List Str) (sc : Scope) : Prop where
  kind : sc.kind = .function
  co : sc.isCoroutine = false
  gen : sc.isGenerator = false
  nd : N.Nodup
  pre : N.take P.length = P
  par : ∀ x ∈ P, sc.names.lookup x = some .local ∨ sc.names.lookup x = some .cell
  nofree : ∀ y ∈ sc.names, y.2 ≠ .free
theorem bindL_out {kindOf : Str → Option NameKind} {x : Str} : ∀ {binds : List (Str × Value)} {m : Str → Option Value}, (∀ v, (x, v) ∉ binds) → bindL kindOf binds m x = m x
  | [], _, _ => rfl
  | (n, v) :: r, m, h => by
    unfold bindL
    rw [bindL_out fun w hw => h w (List.mem_cons_of_mem _ hw)]
    split
    · have : x ≠ n := by rintro rfl; exact h v List.mem_cons_self
      simp [this]
    · rfl
theorem bindC_out {kindOf : Str → Option NameKind} {x : Str} : ∀ {binds : List (Str × Value)} {m : Str → Option Value}, (∀ v, (x, v) ∉ binds) → bindC kindOf binds m x = m x
  | [], _, _ => rfl
  | (n, v) :: r, m, h => by
    unfold bindC
    rw [bindC_out fun w hw => h w (List.mem_cons_of_mem _ hw)]
    split
    · rfl
    · have : x ≠ n := by rintro rfl; exact h v List.mem_cons_self
      simp [this]
theorem bindL_get {kindOf : Str → Option NameKind} {x : Str} {v : Value} : ∀ {P : List Str} {vs : List Value} {i : Nat} {m : Str → Option Value}, P.Nodup → P[i]? = some x → vs[i]? = some v → kindOf x = some .local →
    bindL kindOf (P.zip vs) m x = some v
  | [], _, _, _, _, h, _, _ => by simp at h
  | _ :: _, [], _, _, _, _, h, _ => by simp at h
  | p :: P, w :: vs, 0, m, nd, h1, h2, hk => by
    simp at h1 h2; subst h1; subst h2
    show bindL kindOf ((p, w) :: P.zip vs) m p = _
    unfold bindL
    rw [bindL_out fun v hv => (List.nodup_cons.mp nd).1 (List.of_mem_zip hv).1, if_pos hk]
    simp
  | p :: P, w :: vs, i + 1, m, nd, h1, h2, hk => by
    show bindL kindOf ((p, w) :: P.zip vs) m x = _
    unfold bindL
    exact bindL_get (i := i) (List.nodup_cons.mp nd).2 (by simpa using h1) (by simpa using h2) hk
theorem bindC_get {kindOf : Str → Option NameKind} {x : Str} {v : Value} : ∀ {P : List Str} {vs : List Value} {i : Nat} {m : Str → Option Value}, P.Nodup → P[i]? = some x → vs[i]? = some v → kindOf x ≠ some .local →
    bindC kindOf (P.zip vs) m x = some v
  | [], _, _, _, _, h, _, _ => by simp at h
  | _ :: _, [], _, _, _, _, h, _ => by simp at h
  | p :: P, w :: vs, 0, m, nd, h1, h2, hk => by
    simp at h1 h2; subst h1; subst h2
    show bindC kindOf ((p, w) :: P.zip vs) m p = _
    unfold bindC
    rw [bindC_out fun v hv => (List.nodup_cons.mp nd).1 (List.of_mem_zip hv).1, if_neg hk]
    simp
  | p :: P, w :: vs, i + 1, m, nd, h1, h2, hk => by
    show bindC kindOf ((p, w) :: P.zip vs) m x = _
    unfold bindC
    exact bindC_get (i := i) (List.nodup_cons.mp nd).2 (by simpa using h1) (by simpa using h2) hk
/-- the names' values at the entry -/
def start (N : List Str) (vs : List V) : St := vs.map some ++ List.replicate (N.length - vs.length) none
/-- the context of a def's body, at its entry; an exception leaves the frame, then lies as CX says -/
def cxOf (CX : CXT) (P : Program) (w : World) (K : PySem.W.Frag) (mg : Str → Option Value) (base : Heap) (N : List Str) (qual : Str) (scope : Scope) (f : Addr) (cd : Value) (A : Around) (outer : List Env) (s : Shared) (H : Hp) (E : XK) : Cx where
  prog := P
  w := w
  K := K
  mg := mg
  base := base
  A := A.deeper (envOfC qual scope s.heap.objs.size f cd)
  N := N
  s₀ := s
  H₀ := H
  env := envOfC qual scope s.heap.objs.size f cd
  outer := outer
  stack := envOfC qual scope s.heap.objs.size f cd :: outer
  ex := []
  calm := true
  fn := fun _ => true
  pn := []
  xe := fun e s' => wpAny (model P w) (A.deeper (envOfC qual scope s.heap.objs.size f cd)) (leaving (envOfC qual scope s.heap.objs.size f cd) e) (fun _ s'' => CX outer H s E e s'') (fun e' s'' => CX outer H s E e' s'') s'
theorem cell_has {sc : Scope} {n : Nat} {x : Str} (h : sc.names.lookup x = some .cell) : ∃ c, (cellsFrom n sc.names []).lookup x = some c := by
  have q := PySem.W.cellsFrom_some sc.names n [] (.inl h)
  exact Option.isSome_iff_exists.mp q
theorem inv_start {CX : CXT} {P : Program} {w : World} {K : PySem.W.Frag} {mg : Str → Option Value} {base : Heap} {N ps : List Str} {qual : Str} {scope : Scope} {f : Addr} {cd : Value} {A : Around} {outer : List Env} {s s1 : Shared} {H : Hp} {E : XK} {us : List Value} {vs : List V}
    (S : FnScope N ps scope) (hd : A.handled = none) (e0 : Env0 P w K mg base A outer s H) (hl : vs.length = ps.length) (r : Vals vs us)
    (x : InCallC s s.heap.objs.size (bindL (envOfC qual scope s.heap.objs.size f cd).kindOf (ps.zip us) fun _ => none) (cellsFrom (s.heap.objs.size + 1) scope.names []) (bindC (envOfC qual scope s.heap.objs.size f cd).kindOf (ps.zip us) fun _ => none) s1) :
    Inv (cxOf CX P w K mg base N qual scope f cd A outer s H E) [] (start N vs) H s1 := by
  have hpl : ps.length ≤ N.length := by have := congrArg List.length S.pre; rw [List.length_take] at this; omega
  obtain ⟨h1, tk, rfl, hk⟩ := x.done
  have noA : ∀ b : Addr, b ∉ (cxOf CX P w K mg base N qual scope f cd A outer s H E).ex := fun b z => absurd (show b ∈ ([] : List Addr) from z) (by simp)
  refine ⟨⟨e0.mod, S.kind, rfl, rfl, Nat.le_refl _, fun y z c h1 h2 => ?_, fun y hy => ?_, fun y c _ h => ?_, fun _ => hd, Around.frames_deeper e0.frames, .inr ⟨rfl, rfl⟩, fun b z => absurd z (noA b), e0.bs, e0.bsz, fun b _ _ => noA b, fun b z => absurd z (noA b), e0.funs, e0.frf⟩,
    rfl, e0.bare, Un.kept hk, ⟨_, x.toInCall.ns, fun i y v h1 h2 h3 => ?_⟩, fun y c h => ⟨_, x.cell y c h⟩, e0.hok.fresh (Nat.le_refl _), fun y c h => ?_, fun p hp => absurd (show p ∈ ([] : List (Addr × Obj)) from hp) (by simp), e0.hok.kept hk, ?_⟩
  · exact name_of_addr x.apart (PySem.mem_of_lookup h1) (PySem.mem_of_lookup h2)
  · have hy : scope.names.lookup y = some .cell ∨ scope.names.lookup y = some .free := hy
    rcases hy with hy | hy
    · exact cell_has hy
    · exact absurd rfl (S.nofree _ (PySem.mem_of_lookup hy))
  · exact Nat.le_of_lt (x.above y c (PySem.mem_of_lookup h))
  · have hi : i < vs.length := by
      unfold start at h2
      by_cases hi : i < vs.length
      · exact hi
      · rw [List.getElem?_append_right (by simpa using hi)] at h2
        rw [List.getElem?_replicate] at h2
        split at h2 <;> cases h2
    have ha : vs[i]? = some v := by
      unfold start at h2
      rw [List.getElem?_append_left (by simpa using hi), List.getElem?_map] at h2
      cases e : vs[i]? with
      | none => rw [e] at h2; cases h2
      | some a => rw [e] at h2; cases h2; rfl
    obtain ⟨u, hu, rv⟩ := r.get ha
    have hp : ps[i]? = some y := by
      rw [← S.pre, List.getElem?_take_of_lt (by omega)]; exact h1
    have ndP : ps.Nodup := by rw [← S.pre]; exact S.nd.sublist (List.take_sublist _ _)
    refine ⟨u, rv, ?_⟩
    rcases S.par y (List.mem_of_getElem? hp) with k | k
    · exact .inl ⟨k, bindL_get ndP hp hu k⟩
    · obtain ⟨c, e⟩ := cell_has (n := s.heap.objs.size + 1) k
      refine .inr ⟨.inl k, c, e, ?_⟩
      have q := x.cell y c e
      rw [bindC_get ndP hp hu (by show scope.names.lookup y ≠ _; rw [k]; decide)] at q
      exact q
  · exact e0.hok.fresh (Nat.le_of_lt (x.above y c (PySem.mem_of_lookup h)))
  · unfold start
    show _ = N.length
    rw [List.length_append, List.length_map, List.length_replicate]
    omega
/-- THE RULE: a def (or a method) of the text, by its body. The body's reading t is chosen for each entry; it is run at the parameters' values -/
theorem fn_of {CX : CXT} {P : Program} {w : World} {K : PySem.W.Frag} {mg : Str → Option Value} {base : Heap} {k : Nat} {f : Addr} {name qual : Str} {params : Arguments} {body : List Stmt} {scope : Scope} {dV kV doc pm cdv ct oc : Value} {an od : Option Addr}
    {osl : Array (Option Value)} {N ps : List Str} {sp : Sp} (lk : K.lookup f = some ⟨oc, od, .func (PySem.W.fnOf name qual params body scope dV kV doc pm an cdv ct), osl⟩) (hcd : PySem.W.codeIn K cdv qual = true) (S : FnScope N ps scope)
    (len : ∀ vs H Q E, sp vs H Q E → vs.length = ps.length)
    (hbody : ∀ (A : Around) (outer : List Env) (s : Shared) (H : Hp) (vs : List V) (Q : VK) (E : XK), Room k (A.deeper (envOfC qual scope s.heap.objs.size f cdv)) → sp vs H Q E →
      ∃ t, PSs (cxOf CX P w K mg base N qual scope f cdv A outer s H E) body t ∧ t { nx := fun _ H' => Q .non H', rt := Q } (start N vs) H) :
    FnOk P w K mg base CX (k + 1) f (PySem.W.fnOf name qual params body scope dV kV doc pm an cdv ct) ps sp := by
  refine ⟨len, fun A outer s H args us vs Q E hr e0 hb r hsp => ?_⟩
  have hl := len _ _ _ _ hsp
  have KX : K.In s.heap := e0.mod.kin.keeps fun b o e => (e0.bs b o e).1
  have lim : s.heap.NoLimit := e0.mod.nolimit.keeps fun b o e => (e0.bs b o e).1
  have hkind : ∀ y ∈ ps.zip us, scope.names.lookup y.1 = some .local ∨ (scope.names.lookup y.1 = some .cell ∧ ((cellsFrom (s.heap.objs.size + 1) scope.names []).lookup y.1).isSome = true) := fun ⟨n, v⟩ hy => by
    rcases S.par n (List.of_mem_zip hy).1 with q | q
    · exact .inl q
    · exact .inr ⟨q, PySem.W.cellsFrom_some _ _ _ (.inl q)⟩
  refine codeAny_call_function hr.depth (KX _ _ lk) rfl S.co S.gen rfl (PySem.W.codeRec_of KX hcd) (hb _ _ _ _ ?_)
  refine wpAny_newFunctionEnv_cells S.kind hkind fun env he s1 x => ?_
  subst he
  refine ⟨lim.keeps x.toInCall.keep, codeAny_func ?_⟩
  obtain ⟨t, ht, hq⟩ := hbody A outer s H vs Q E (hr.deeper _) hsp
  have I : Inv (cxOf CX P w K mg base N qual scope f cdv A outer s H E) [] (start N vs) H s1 := inv_start S hr.hd e0 hl r x
  refine wpAny_mono (ht [] s1 (start N vs) H _ I hq) (fun fl s' hs => ?_) fun e s' hs => hs
  have fin : ∀ {σ' : St} {H' : Hp} {v : V} {u : Value}, Inv (cxOf CX P w K mg base N qual scope f cdv A outer s H E) [] σ' H' s' → RelV v u → Q v H' → CE outer P w H s Q u s' :=
    fun {σ' H' v u} J rv q => ⟨v, H', J.os, J.bare, J.base, J.hok, rv, q⟩
  cases fl with
  | ret u =>
    obtain ⟨v, σ', H', J, rv, q⟩ := hs
    exact fin J rv q
  | next =>
    obtain ⟨σ', H', J, q⟩ := hs
    exact fin (v := V.non) (u := Value.none) J rfl q
  | brk =>
    obtain ⟨_, _, _, q⟩ := hs
    exact False.elim q
  | cont =>
    obtain ⟨_, _, _, q⟩ := hs
    exact False.elim q
end L2
namespace L2
open PySem PySem.Spec PyProof.Rows
section
variable {X : Cx} {x : Str} {p pos : Pos} {e : Expr} {es : List Expr} {t : TA} {id T : String} {r : List V → Hp → VK → Prop}
def tCB (r : List V → Hp → VK → Prop) (t : TA) : TE := fun σ H Q => t σ H fun vs H1 => r vs H1 Q
/-- f(e, ..), f a built-in function -/
theorem pe_callB (hc : CallR X (.builtin id) r) (hg : Gl X x) (hm : X.mg x = none) (hv : bootBuiltins x = some (.builtin id)) (ha : PA X (e :: es) t) (hn : x ≠ "__name__" := by decide) (hdb : (x == ("__debug__" : Str)) = false := by decide)
    (he : starEach (e :: es) X.env = (false, eval e X.env) :: starEach es X.env := by rfl) (hpl : (backTo pos (starEach es X.env)).any (·.1) = false := by rfl) : PE X (.Call (.Name x p) (e :: es) [] pos) (tCB r t) := by
  intro pins s σ H Q I h
  refine wpAny_Call_Name_kw (ld_blt I hg hm hv ?_ hn hdb)
  exact PyProof.Rows.callWith_builtin1 (thn (ha pos pins s σ H _ I h) fun us s1 ⟨vs, H1, I1, r1, q1⟩ => hc pins s1 σ H1 vs us Q I1 r1 q1) he hpl
/-- T(e, ..), T a built-in type -/
theorem pe_callTy (hc : CallR X (.type T) r) (hg : Gl X x) (hm : X.mg x = none) (hv : bootBuiltins x = some (.type T)) (ha : PA X (e :: es) t) (hn : x ≠ "__name__" := by decide) (hdb : (x == ("__debug__" : Str)) = false := by decide)
    (he : starEach (e :: es) X.env = (false, eval e X.env) :: starEach es X.env := by rfl) (hpl : (backTo pos (starEach es X.env)).any (·.1) = false := by rfl) : PE X (.Call (.Name x p) (e :: es) [] pos) (tCB r t) := by
  intro pins s σ H Q I h
  refine wpAny_Call_Name_kw (ld_blt I hg hm hv ?_ hn hdb)
  exact PyProof.Rows.callWith_type1 (thn (ha pos pins s σ H _ I h) fun us s1 ⟨vs, H1, I1, r1, q1⟩ => hc pins s1 σ H1 vs us Q I1 r1 q1) he hpl
end
end L2
namespace HT
open PySem PyProof.Rows
section
open PySem.SeqAt
open PySem.AutoSeq1 (wpAny_loadPart')
open PySem.MeetsSeq PySem.MeetsSeq2 PySem.MeetsSeq3
end
section
variable {prog : Program} {w : World} {A : Around} {E : Value → Shared → Prop} {s : Shared}
/-! ### t[a:b], not the whole -/
/-- a slice's bound as a place among n (d where it is left out) -/
def sIx (n d : Nat) : Option Int → Nat
  | none => d
  | some v => if v < 0 then (v + (n : Int)).toNat else min v.toNat n
end
end HT
namespace L2
open PySem PySem.Spec PyProof.Rows
/-! ### the parts of a slice -/
abbrev TO := St → Hp → (Option Int → Hp → Prop) → Prop
/-- a slice's part (left out, or an int) -/
def PO (X : Cx) (e : Option Expr) (t : TO) : Prop :=
  ∀ (pins : List (Addr × Obj)) (s : Shared) (σ : St) (H : Hp) (Q : Option Int → Hp → Prop), Inv X pins σ H s → t σ H Q →
    wpAny (model X.prog X.w) X.A (evalPart e X.env) (fun u s' => ∃ o H', Inv X pins σ H' s' ∧ IsPart u o ∧ Q o H') X.xe s
def tNoPart : TO := fun _ H Q => Q none H
def tPart (t : TE) : TO := fun σ H Q => t σ H fun x H1 => ∃ i, x = .int i ∧ Q (some i) H1
section
variable {X : Cx} {e : Expr} {te : TE} {lo hi : Option Expr} {tl th : TO} {pos p2 : Pos}
theorem po_none : PO X none tNoPart := by
  intro pins s σ H Q I h
  rw [evalPart_none]
  exact wpAny_pure ⟨none, H, I, .none, h⟩
theorem po_some (h : PE X e te) : PO X (some e) (tPart te) := by
  intro pins s σ H Q I hw
  rw [evalPart_some]
  refine thn (h pins s σ H _ I hw) fun u s1 ⟨x, H1, I1, r1, q1⟩ => ?_
  obtain ⟨i, rfl, q⟩ := q1
  obtain ⟨t, rfl⟩ := r1
  exact ⟨some i, H1, I1, .int i t, q⟩
/-- what a slice of a value is, by values: the slice object stands at sl -/
def SlR (X : Cx) (r : V → Option Int → Option Int → Hp → VK → Prop) : Prop :=
  ∀ (pins : List (Addr × Obj)) (s : Shared) (σ : St) (H : Hp) (x : V) (v vl vu : Value) (lo hi : Option Int) (sl : Addr) (Q : VK), Inv X pins σ H s → RelV x v → s.heap.IsSliceOf sl vl vu .none → IsPart vl lo → IsPart vu hi → r x lo hi H Q →
    ∃ T id, typeLookup (.type T) "__getitem__" = pure (some (.builtin id)) ∧ s.TypeIs v T ∧ wpAny (model X.prog X.w) X.A (getItem v (.ref sl)) (EP X pins σ Q) X.xe s
theorem SlR.or {r r' : V → Option Int → Option Int → Hp → VK → Prop} (h : SlR X r) (h' : SlR X r') : SlR X (fun x lo hi H Q => r x lo hi H Q ∨ r' x lo hi H Q) := by
  intro pins s σ H x v vl vu lo hi sl Q I rx hs pl pu q
  rcases q with q | q
  · exact h pins s σ H x v vl vu lo hi sl Q I rx hs pl pu q
  · exact h' pins s σ H x v vl vu lo hi sl Q I rx hs pl pu q
def tSl (r : V → Option Int → Option Int → Hp → VK → Prop) (te : TE) (tl th : TO) : TE := fun σ H Q => te σ H fun x H1 => tl σ H1 fun l H2 => th σ H2 fun u H3 => r x l u H3 Q
/-- a[lo:hi], any a -/
theorem pe_slice {r : V → Option Int → Option Int → Hp → VK → Prop} (hr : SlR X r) (he : PE X e te) (hl : PO X lo tl) (hu : PO X hi th) : PE X (.Subscript e (.Slice lo hi none p2) pos) (tSl r te tl th) := by
  intro pins s σ H Q I h
  refine Subscript_ (thn (he pins s σ H _ I h) fun v s1 ⟨x, H1, I1, r1, q1⟩ => ?_)
  refine wpAny_Slice (thn (hl pins s1 σ H1 _ I1 q1) fun vl s2 ⟨l, H2, I2, pl, q2⟩ => thn (hu pins s2 σ H2 _ I2 q2) fun vu s3 ⟨u, H3, I3, pu, q3⟩ => ?_)
  rw [evalPart_none]
  refine wpAny_pure ?_
  have I4 : Inv X pins σ H3 { s3 with heap := s3.heap.push { cls := .type "slice", data := .fields #[vl, vu, .none] } } := I3.kept (t' := s3.toks) fun b ob q => Heap.get?_push_of_some _ q
  obtain ⟨T, id, hT, ht, hg⟩ := hr pins { s3 with heap := s3.heap.push { cls := .type "slice", data := .fields #[vl, vu, .none] } } σ H3 x v vl vu l u s3.heap.objs.size Q I4 r1 (Heap.IsSliceOf.new ..) pl pu q3
  show wpAny (model X.prog X.w) X.A (subscriptTail e (.Slice lo hi none p2) v (.ref s3.heap.objs.size)) (EP X pins σ Q) X.xe { s3 with heap := s3.heap.push { cls := .type "slice", data := .fields #[vl, vu, .none] } }
  exact tail_any (ops := [.ref s3.heap.objs.size, v]) ht hT hg (by with_unfolding_all rfl)
/-- the items of xs[lo:hi] -/
def cutV (xs : List V) (lo hi : Option Int) : List V := (xs.drop (HT.sIx xs.length 0 lo)).take (HT.sIx xs.length xs.length hi - HT.sIx xs.length 0 lo)
theorem cutV_length (xs : List V) (lo hi : Option Int) : (cutV xs lo hi).length ≤ xs.length := by
  unfold cutV
  rw [List.length_take, List.length_drop]
  omega
end
end L2
namespace L2
open PySem PySem.Spec PyProof.Rows
/-! ### places -/
/-- the place that an index of any sign means -/
def ixN (n : Nat) (i : Int) : Option Nat := if 0 ≤ i then (if i < n then some i.toNat else none) else if -(n : Int) ≤ i then some (i + n).toNat else none
def atI {α : Type} (xs : List α) (i : Int) : Option α := (ixN xs.length i).bind fun j => xs[j]?
theorem ixN_seq {n : Nat} {i : Int} {j : Nat} (h : ixN n i = some j) : seqIndex? i n = some j ∧ j < n ∧ -(n : Int) ≤ i ∧ i < n := by
  unfold ixN at h
  by_cases h0 : 0 ≤ i
  · rw [if_pos h0] at h
    by_cases h1 : i < n
    · rw [if_pos h1] at h
      have e : i.toNat = j := Option.some.inj h
      exact ⟨by rw [seqIndex_of h0 h1, e], by omega, by omega, h1⟩
    · rw [if_neg h1] at h; cases h
  · rw [if_neg h0] at h
    by_cases h1 : -(n : Int) ≤ i
    · rw [if_pos h1] at h
      have e : (i + n).toNat = j := Option.some.inj h
      exact ⟨by rw [seqIndex_neg (by omega) h1, e], by omega, h1, by omega⟩
    · rw [if_neg h1] at h; cases h
theorem atI_get {α : Type} {xs : List α} {i : Int} {v : α} (h : atI xs i = some v) : ∃ j, seqIndex? i xs.length = some j ∧ xs[j]? = some v ∧ j < xs.length ∧ -(xs.length : Int) ≤ i ∧ i < xs.length := by
  unfold atI at h
  cases e : ixN xs.length i with
  | none => rw [e] at h; cases h
  | some j =>
    rw [e] at h
    obtain ⟨h1, h2, h3, h4⟩ := ixN_seq e
    exact ⟨j, h1, h, h2, h3, h4⟩
theorem atI_nat {α : Type} {xs : List α} {j : Nat} {v : α} (h : xs[j]? = some v) : atI xs (j : Int) = some v := by
  have hj : j < xs.length := (List.getElem?_eq_some_iff.mp h).1
  have e : ixN xs.length (j : Int) = some j := by
    unfold ixN
    rw [if_pos (by omega), if_pos (by omega)]; simp
  unfold atI; rw [e]; exact h
/-! ### what may be subscripted -/
/-- what stands as an index of a plain subscript -/
def PlainIx (b : Expr) : Prop := ∀ o i, subscripted b false o i = operate [o, i] (getItem o i)
/-- a subscript by values -/
def IxR (X : Cx) (r : R2) : Prop :=
  ∀ (value slice : Expr) (pins : List (Addr × Obj)) (s : Shared) (σ : St) (H : Hp) (x y : V) (v u : Value) (Q : VK), Inv X pins σ H s → RelV x v → RelV y u → r x y H Q →
    subscripted slice false v u = operate [v, u] (getItem v u) → wpAny (model X.prog X.w) X.A (subscriptTail value slice v u) (EP X pins σ Q) X.xe s
/-- a call of a builtin's method by values: the receiver, the arguments -/
def MtR (X : Cx) (id : String) (r : V → List V → Hp → VK → Prop) : Prop :=
  ∀ (pins : List (Addr × Obj)) (s : Shared) (σ : St) (H : Hp) (x : V) (xs : List V) (v : Value) (us : List Value) (Q : VK), Inv X pins σ H s → RelV x v → Vals xs us → r x xs H Q →
    wpAny (model X.prog X.w) X.A (call (.builtin id) (v :: us)) (EP X pins σ Q) X.xe s
section
variable {X : Cx} {a b : Expr} {ta tb : TE} {pos : Pos}
theorem IxR.or {r r' : R2} (h : IxR X r) (h' : IxR X r') : IxR X (fun x y H Q => r x y H Q ∨ r' x y H Q) := by
  intro value slice pins s σ H x y v u Q I rx ry q hs
  rcases q with q | q
  · exact h value slice pins s σ H x y v u Q I rx ry q hs
  · exact h' value slice pins s σ H x y v u Q I rx ry q hs
theorem MtR.or {id : String} {r r' : V → List V → Hp → VK → Prop} (h : MtR X id r) (h' : MtR X id r') : MtR X id (fun x xs H Q => r x xs H Q ∨ r' x xs H Q) := by
  intro pins s σ H x xs v us Q I rx rs q
  rcases q with q | q
  · exact h pins s σ H x xs v us Q I rx rs q
  · exact h' pins s σ H x xs v us Q I rx rs q
/-- a[b] -/
theorem pe_ix {r : R2} (hr : IxR X r) (ha : PE X a ta) (hb : PE X b tb) (hs : PlainIx b) : PE X (.Subscript a b pos) (tOp r ta tb) := by
  intro pins s σ H Q I h
  exact Subscript_ (binT ha hb I h fun v u s2 x y H2 I2 rx ry q => hr a b pins s2 σ H2 x y v u Q I2 rx ry q (hs _ _))
def rIxL (K : PySem.W.Frag) : R2 := fun x y H Q => ∃ p xs i v, x = .ref p ∧ y = .int i ∧ SqL K H p xs ∧ atI xs i = some v ∧ Q v H
def rIxT (K : PySem.W.Frag) : R2 := fun x y H Q => ∃ p xs i v, x = .ref p ∧ y = .int i ∧ SqT K H p xs ∧ atI xs i = some v ∧ Q v H
theorem ix_list : IxR X (rIxL X.K) := by
  intro value slice pins s σ H x y v u Q I rx ry h hs
  obtain ⟨p, xs, i, z, rfl, rfl, hq, he, q⟩ := h
  cases rx
  obtain ⟨t, rfl⟩ := ry
  obtain ⟨its, r, pl, hz⟩ := I.list hq
  obtain ⟨j, h1, h2, h3, h4, h5⟩ := atI_get he
  obtain ⟨w, ew, rw'⟩ := r.get h2
  have hl := r.length
  have hn := line63
  have fin : EP X pins σ Q w s := ⟨z, H, I, rw', q⟩
  by_cases h0 : 0 ≤ i
  · have hj : i.toNat = j := by
      rw [seqIndex_of h0 h5] at h1
      exact Option.some.inj h1
    exact item_listR pl.isList h0 (by omega) (by rw [hj]; simpa using ew) fin hs
  · have hj : (i + (its.toArray.size : Int)).toNat = j := by
      rw [seqIndex_neg (by omega) h4] at h1
      rw [List.size_toArray, ← hl]
      exact Option.some.inj h1
    exact subscriptTail_builtinR (x := w) pl.isList.typeIs slot_list_getitem.lookup
      (wpAny_getItem_list_neg (Q := fun r s' => r = w ∧ EP X pins σ Q r s') pl.isList (by omega) (by rw [List.size_toArray] <;> omega) (by omega) (by rw [hj]; simpa using ew) ⟨rfl, fin⟩) hs
theorem ix_tup : IxR X (rIxT X.K) := by
  intro value slice pins s σ H x y v u Q I rx ry h hs
  obtain ⟨p, xs, i, z, rfl, rfl, hq, he, q⟩ := h
  cases rx
  obtain ⟨t, rfl⟩ := ry
  obtain ⟨its, r, pl, hz⟩ := I.tuple hq
  obtain ⟨j, h1, h2, h3, h4, h5⟩ := atI_get he
  obtain ⟨w, ew, rw'⟩ := r.get h2
  have hl := r.length
  have hn := line63
  have fin : EP X pins σ Q w s := ⟨z, H, I, rw', q⟩
  exact subscriptTail_builtinR (x := w) pl.typeIs slot_tuple_getitem.lookup
    (getItem_tuple (j := j) (Q := fun r s' => r = w ∧ EP X pins σ Q r s') pl (by omega) (by omega) (by rw [List.size_toArray, ← hl]; exact h1) (by simpa using ew) ⟨rfl, fin⟩) hs
/-! ### xs[i] = v, any sign -/
/-- the list's object behind a store -/
theorem mapSeq_set (its : List Value) (n j : Nat) (u : Value) : Obj.mapSeq (·.setIfInBounds j u) { cls := .type "list", data := .seq its.toArray n } = { cls := .type "list", data := .seq (its.set j u).toArray n } := by
  simp [Obj.mapSeq]
theorem Inv.lst {pins : List (Addr × Obj)} {σ : St} {H : Hp} {s : Shared} {p : Addr} {xs : List V} (I : Inv X pins σ H s) (h : H p = some (.lst xs)) :
    ∃ (its : List Value) (n : Nat), Vals xs its ∧ s.heap.get? p = some { cls := .type "list", data := .seq its.toArray n } ∧ xs.length ≤ sizeLine := by
  obtain ⟨z, its, n, r, e⟩ := I.hok p _ h
  exact ⟨its, n, r, e, z⟩
/-- the list at p is written by an update of its object -/
theorem Inv.lstUpd {pins : List (Addr × Obj)} {σ : St} {H : Hp} {s : Shared} {p : Addr} {xs ys : List V} {its its' : List Value} {n n' : Nat} {f : Obj → Obj} (I : Inv X pins σ H s) (h : H p = some (.lst xs))
    (ho : s.heap.get? p = some { cls := .type "list", data := .seq its.toArray n }) (hf : f { cls := .type "list", data := .seq its.toArray n } = { cls := .type "list", data := .seq its'.toArray n' }) (r : Vals ys its') (hz : ys.length ≤ sizeLine) (t : Nat) :
    Inv X pins σ (upd H p (.lst ys)) { s with heap := s.heap.update p f, toks := t } := by
  have e : (s.heap.update p f).get? p = some { cls := .type "list", data := .seq its'.toArray n' } := by
    rw [Heap.get?_update_self f ho (by rw [hf] <;> rfl), hf]
  refine I.write (x := p) (e := p) (by rw [h]; trivial) (.inl rfl) (fun b u hb q => (Heap.get?_update_other _ _ (Ne.symm hb)).trans q) ⟨_, e⟩ ?_
  exact ⟨hz, its', n', r, e⟩
def rSetL : V → V → V → Hp → (Hp → Prop) → Prop := fun o i v H Q => ∃ p xs k j, o = .ref p ∧ i = .int k ∧ H p = some (.lst xs) ∧ ixN xs.length k = some j ∧ Q (upd H p (.lst (xs.set j v)))
theorem set_list : PSet X rSetL := by
  intro pins s σ H o i v ov iv u Q I ro ri rv h
  obtain ⟨p, xs, k, j, rfl, rfl, hp, hj, q⟩ := h
  cases ro
  obtain ⟨t, rfl⟩ := ri
  obtain ⟨its, n, r, ho, hz⟩ := I.lst hp
  obtain ⟨h1, h2, h3, h4⟩ := ixN_seq hj
  have hl := r.length
  have hn := line63
  have I' : Inv X pins σ (upd H p (.lst (xs.set j v))) { s with heap := s.heap.update p (Obj.mapSeq (·.setIfInBounds j u)) } :=
    I.lstUpd hp ho (mapSeq_set its n j u) (r.set rv j) (by rw [List.length_set]; exact hz) s.toks
  by_cases h0 : 0 ≤ k
  · have hk : k.toNat = j := by
      rw [seqIndex_of h0 h4] at h1
      exact Option.some.inj h1
    exact PySem.W.ki_setAt ho h0 (by omega) (by rw [List.size_toArray, ← hl]; exact h4) (by rw [hk]; exact ⟨_, I', q⟩)
  · have hk : (k + (its.toArray.size : Int)).toNat = j := by
      rw [seqIndex_neg (by omega) h3] at h1
      rw [List.size_toArray, ← hl]
      exact Option.some.inj h1
    exact PySem.W.ki_setBack ho (by omega) (by rw [List.size_toArray, ← hl]; exact h3) (by omega) (by rw [hk]; exact ⟨_, I', q⟩)
/-! ### slices -/
theorem slice_bounds (lo hi : Option Int) (n : Nat) : (sliceBounds lo hi none n).1 = ((HT.sIx n 0 lo : Nat) : Int) ∧ (sliceBounds lo hi none n).2.1 = ((HT.sIx n n hi : Nat) : Int) ∧ (sliceBounds lo hi none n).2.2 = 1 := by
  refine ⟨?_, ?_, rfl⟩
  · cases lo with
    | none => simp [sliceBounds, HT.sIx]
    | some i =>
      simp only [sliceBounds, HT.sIx, Option.getD_none, show (1 : Int) > 0 by decide, if_true]
      by_cases h : i < 0
      · simp only [h, if_true] <;> omega
      · simp only [h, if_false] <;> omega
  · cases hi with
    | none => simp [sliceBounds, HT.sIx]
    | some i =>
      simp only [sliceBounds, HT.sIx, Option.getD_none, show (1 : Int) > 0 by decide, if_true]
      by_cases h : i < 0
      · simp only [h, if_true] <;> omega
      · simp only [h, if_false] <;> omega
theorem slicePick_cut (its : List Value) (lo hi : Option Int) : slicePick its.toArray lo hi none = ((its.drop (HT.sIx its.length 0 lo)).take (HT.sIx its.length its.length hi - HT.sIx its.length 0 lo)).toArray := by
  obtain ⟨h1, h2, h3⟩ := slice_bounds lo hi its.toArray.size
  unfold slicePick
  rw [h1, h2, h3]
  simp only [sliceRange_one, pick_run, List.size_toArray] <;> rfl
/-- xs[lo:hi] of a list: a new list -/
def rSlL (K : PySem.W.Frag) : V → Option Int → Option Int → Hp → VK → Prop := fun x lo hi H Q => ∃ a xs, x = .ref a ∧ SqL K H a xs ∧ ∀ p, H p = none → Q (.ref p) (upd H p (.lst (cutV xs lo hi)))
theorem sl_list : SlR X (rSlL X.K) := by
  intro pins s σ H x v vl vu lo hi sl Q I rx hs pl pu h
  obtain ⟨a, xs, rfl, hx, q⟩ := h
  cases rx
  obtain ⟨its, r, ht, hz⟩ := I.list hx
  have hlen := r.length
  refine ⟨"list", _, slot_list_getitem.lookup, ht.isList.typeIs, ?_⟩
  refine wpAny_getItem_list_slice ht.isList hs pl pu .none (by simp) ?_ (by rw [List.size_toArray] <;> omega)
  rw [slicePick_cut, ← hlen]
  refine ⟨.ref s.heap.objs.size, _, I.laid (t' := s.toks) (o := .lst (cutV xs lo hi)) (fun b ob q => Heap.get?_push_of_some _ q) (Nat.le_refl _) ?_, rfl, q _ (I.hok.fresh (Nat.le_refl _))⟩
  exact ⟨Nat.le_trans (cutV_length xs lo hi) hz, _, 0, (r.drop (HT.sIx xs.length 0 lo)).take (HT.sIx xs.length xs.length hi - HT.sIx xs.length 0 lo), Heap.get?_push_size _ rfl⟩
/-! ### in, not in: flat items -/
def flatV : V → Bool
  | .non => true
  | .bl _ => true
  | .int _ => true
  | .str _ => true
  | _ => false
/-- == of flat values -/
def eqV : V → V → Bool
  | .non, .non => true
  | .bl a, .bl b => a == b
  | .bl a, .int b => (if a then 1 else 0) == b
  | .int a, .bl b => a == (if b then 1 else 0)
  | .int a, .int b => a == b
  | .str a, .str b => a == b
  | _, _ => false
theorem eqAt_V {A : Around} {s : Shared} {y x : V} {u v : Value} (ry : RelV y u) (rx : RelV x v) (fy : flatV y = true) (fx : flatV x = true) : SeqAt.EqAt A s u v (eqV y x) := by
  cases y with
  | non =>
    cases ry
    cases x with
    | non => cases rx; exact SeqAt.EqAt.same _
    | bl b => cases rx; exact SeqAt.EqAt.none_bool b
    | int b => obtain ⟨t, rfl⟩ := rx; exact SeqAt.EqAt.none_int b t
    | str b => obtain ⟨t, rfl⟩ := rx; exact SeqAt.EqAt.none_str b t
    | _ => exact absurd (show false = true from fx) Bool.false_ne_true
  | bl a =>
    cases ry
    cases x with
    | non => cases rx; exact SeqAt.EqAt.bool_none a
    | bl b => cases rx; exact SeqAt.EqAt.bool_bool a b
    | int b => obtain ⟨t, rfl⟩ := rx; exact SeqAt.EqAt.bool_int a b t
    | str b => obtain ⟨t, rfl⟩ := rx; exact SeqAt.EqAt.bool_str a b t
    | _ => exact absurd (show false = true from fx) Bool.false_ne_true
  | int a =>
    obtain ⟨t', rfl⟩ := ry
    cases x with
    | non => cases rx; exact SeqAt.EqAt.int_none a t'
    | bl b => cases rx; exact SeqAt.EqAt.int_bool a t' b
    | int b => obtain ⟨t, rfl⟩ := rx; exact SeqAt.EqAt.int_int a t' b t
    | str b => obtain ⟨t, rfl⟩ := rx; exact SeqAt.EqAt.int_str a t' b t
    | _ => exact absurd (show false = true from fx) Bool.false_ne_true
  | str a =>
    obtain ⟨t', rfl⟩ := ry
    cases x with
    | non => cases rx; exact SeqAt.EqAt.str_none a t'
    | bl b => cases rx; exact SeqAt.EqAt.str_bool a t' b
    | int b => obtain ⟨t, rfl⟩ := rx; exact SeqAt.EqAt.str_int a t' b t
    | str b => obtain ⟨t, rfl⟩ := rx; exact SeqAt.EqAt.str_str a t' b t
    | _ => exact absurd (show false = true from fx) Bool.false_ne_true
  | _ => exact absurd (show false = true from fy) Bool.false_ne_true
/-- the items' answers, read off the values (a value's own answer does not lean on its token) -/
def eqU (x : V) (u : Value) : Bool := match u with
  | .none => eqV .non x
  | .bool b => eqV (.bl b) x
  | .int i _ => eqV (.int i) x
  | .str z _ => eqV (.str z) x
  | _ => false
theorem eqU_of {x y : V} {u : Value} (r : RelV y u) (f : flatV y = true) : eqU x u = eqV y x := by
  cases y with
  | non => cases r; rfl
  | bl b => cases r; rfl
  | int i => obtain ⟨t, rfl⟩ := r; rfl
  | str z => obtain ⟨t, rfl⟩ := r; rfl
  | _ => exact absurd (show false = true from f) Bool.false_ne_true
theorem any_eqU {x : V} : ∀ {xs : List V} {us : List Value}, Vals xs us → xs.all flatV = true → us.any (eqU x) = xs.any fun y => eqV y x
  | _, _, .nil, _ => rfl
  | y :: xs, u :: us, .cons r t, f => by
    rw [List.all_cons, Bool.and_eq_true] at f
    rw [List.any_cons, List.any_cons, eqU_of r f.1, any_eqU t f.2]
theorem mem_eqAt {A : Around} {s : Shared} {x : V} {v : Value} (rx : RelV x v) (fx : flatV x = true) : ∀ {xs : List V} {us : List Value}, Vals xs us → xs.all flatV = true → ∀ u ∈ us, SeqAt.EqAt A s u v (eqU x u)
  | _, _, .nil, _ => fun u hu => by cases hu
  | y :: xs, u :: us, .cons r t, f => fun u' hu => by
    rw [List.all_cons, Bool.and_eq_true] at f
    rcases List.mem_cons.mp hu with rfl | hu
    · rw [eqU_of r f.1]; exact eqAt_V r rx f.1 fx
    · exact mem_eqAt rx fx t f.2 u' hu
def inV (x : V) (xs : List V) : Bool := xs.any fun y => eqV y x
/-- x in a list or tuple of flat items -/
def rIn (K : PySem.W.Frag) (neg : Bool) : R2 := fun x y H Q => ∃ p xs, y = .ref p ∧ (SqL K H p xs ∨ SqT K H p xs) ∧ flatV x = true ∧ xs.all flatV = true ∧ Q (.bl (if neg then !inV x xs else inV x xs)) H
theorem op_in_seq : OpR X (compareOp .In) (rIn X.K false) := by
  intro pins s σ H x y v u Q I rx ry h
  obtain ⟨p, xs, rfl, hq, fx, fs, q⟩ := h
  cases ry
  rcases hq with hq | hq
  · obtain ⟨its, r, pl, hz⟩ := I.list hq
    refine SeqAt.in_listAt (eqU x) pl.isList (fun w hw => mem_eqAt rx fx r fs w (by simpa using hw)) ⟨.bl _, H, I, rfl, ?_⟩
    rw [show its.toArray.any (eqU x) = its.any (eqU x) by simp, any_eqU r fs]
    exact q
  · obtain ⟨its, r, pl, hz⟩ := I.tuple hq
    refine SeqAt.in_tupleAt (eqU x) pl (fun w hw => mem_eqAt rx fx r fs w (by simpa using hw)) ⟨.bl _, H, I, rfl, ?_⟩
    rw [show its.toArray.any (eqU x) = its.any (eqU x) by simp, any_eqU r fs]
    exact q
/-! ### len, list(x), tuple(x) of any list or tuple that is read -/
theorem call_len_seq : CallR X (.builtin "len") (fun xs H Q => ∃ p ys, xs = [.ref p] ∧ (SqL X.K H p ys ∨ SqT X.K H p ys) ∧ Q (.int ys.length) H) := by
  intro pins s σ H xs us Q I r h
  obtain ⟨p, ys, rfl, hq, q⟩ := h
  obtain ⟨u, rfl, rx⟩ := vals1 r
  cases rx
  have hn := line63
  rcases hq with hq | hq
  · obtain ⟨its, r', pl, hz⟩ := I.list hq
    have hlen := r'.length
    exact Calls.call_len_list pl.isList (by simp only [List.size_toArray] <;> omega) ⟨.int ys.length, H, I.tok _, ⟨s.toks + 1, by rw [List.size_toArray, hlen]⟩, q⟩
  · obtain ⟨its, r', pl, hz⟩ := I.tuple hq
    have hlen := r'.length
    exact len_tuple pl (by simp only [List.size_toArray] <;> omega) ⟨.int ys.length, H, I.tok _, ⟨s.toks + 1, by rw [List.size_toArray, hlen]⟩, q⟩
theorem call_len_str : CallR X (.builtin "len") (fun xs H Q => ∃ z, xs = [.str z] ∧ z.length ≤ sizeLine ∧ Q (.int z.length) H) := by
  intro pins s σ H xs us Q I r h
  obtain ⟨z, rfl, hz, q⟩ := h
  obtain ⟨u, rfl, t, rfl⟩ := vals1 r
  have hn := line63
  exact len_str (by omega) ⟨.int z.length, H, I.tok _, ⟨_, rfl⟩, q⟩
theorem CallR.or {f : Value} {r r' : List V → Hp → VK → Prop} (h : CallR X f r) (h' : CallR X f r') : CallR X f (fun xs H Q => r xs H Q ∨ r' xs H Q) := by
  intro pins s σ H xs us Q I rs q
  rcases q with q | q
  · exact h pins s σ H xs us Q I rs q
  · exact h' pins s σ H xs us Q I rs q
theorem call_list_of : CallR X (.type "list") (fun xs H Q => ∃ p ys, xs = [.ref p] ∧ (SqL X.K H p ys ∨ SqT X.K H p ys) ∧ ∀ l, H l = none → Q (.ref l) (upd H l (.lst ys))) := by
  intro pins s σ H xs us Q I r h
  obtain ⟨p, ys, rfl, hq, q⟩ := h
  obtain ⟨u, rfl, rx⟩ := vals1 r
  cases rx
  have fin : ∀ (its : List Value), Vals ys its → ys.length ≤ sizeLine → ∀ (h' : Heap) (c' : Nat), (∀ b o', s.heap.get? b = some o' → h'.get? b = some o') →
      h'.get? s.heap.objs.size = some { cls := .type "list", dict := none, data := .seq its.toArray c', slots := #[] } → EP X pins σ Q (.ref s.heap.objs.size) { s with heap := h' } := fun its r' hz h' c' kp e =>
    ⟨.ref s.heap.objs.size, _, I.laid (t' := s.toks) kp (Nat.le_refl _) (show ObjOk X.prog X.w _ h' _ (.lst ys) from ⟨hz, its, c', r', e⟩), rfl, q _ (I.hok.fresh (Nat.le_refl _))⟩
  rcases hq with hq | hq
  · obtain ⟨its, r', pl, hz⟩ := I.list hq
    have hlen := r'.length
    obtain ⟨o, ho, hc, n, hd⟩ := pl.isList
    exact call_list_seq p (.inl rfl) ho hc hd (fun h' c' kp e => fin its r' hz h' c' kp e) (by simp only [List.size_toArray] <;> omega)
  · obtain ⟨its, r', pl, hz⟩ := I.tuple hq
    have hlen := r'.length
    obtain ⟨o, ho, hc, n, hd⟩ := pl
    exact call_list_seq p (.inr rfl) ho hc hd (fun h' c' kp e => fin its r' hz h' c' kp e) (by simp only [List.size_toArray] <;> omega)
theorem call_tuple_of : CallR X (.type "tuple") (fun xs H Q => ∃ p ys, xs = [.ref p] ∧ ((SqL X.K H p ys ∧ ∀ l, H l = none → Q (.ref l) (upd H l (.tup ys))) ∨ (SqT X.K H p ys ∧ Q (.ref p) H))) := by
  intro pins s σ H xs us Q I r h
  obtain ⟨p, ys, rfl, h⟩ := h
  obtain ⟨u, rfl, rx⟩ := vals1 r
  cases rx
  rcases h with ⟨hq, q⟩ | ⟨hq, q⟩
  · obtain ⟨its, r', pl, hz⟩ := I.list hq
    have hlen := r'.length
    refine call_tuple_list pl.isList (fun h' kp => ?_) (by simp only [List.size_toArray] <;> omega)
    have I1 : Inv X pins σ H { s with heap := h' } := I.kept (t' := s.toks) kp
    have I2 : Inv X pins σ (upd H h'.objs.size (.tup ys)) { s with heap := h'.push { cls := .type "tuple", data := .seq its.toArray } } :=
      I1.laid (t' := s.toks) (fun b o e => Heap.get?_push_of_some _ e) (Nat.le_refl _) (show ObjOk X.prog X.w _ _ _ (.tup ys) from ⟨hz, its, r', IsTup.new _ _⟩)
    exact ⟨.ref h'.objs.size, _, I2, rfl, q _ (I1.hok.fresh (Nat.le_refl _))⟩
  · obtain ⟨its, r', pl, hz⟩ := I.tuple hq
    exact call_tuple_same pl ⟨.ref p, H, I, rfl, q⟩
/-! ### the call of a builtin's method: o.m(..) -/
/-- the value is of that builtin type -/
def tyV (K : PySem.W.Frag) (T : String) (x : V) (H : Hp) : Prop := match x with
  | .str _ => T = "str"
  | .int _ => T = "int"
  | .ref p => (T = "list" ∧ ∃ xs, SqL K H p xs) ∨ (T = "tuple" ∧ ∃ o, K.lookup p = some o ∧ o.cls = .type "tuple" ∧ o.dict = none) ∨
      (T = "dict" ∧ ((∃ kvs, H p = some (.dK kvs)) ∨ ∃ kvs, H p = some (.dT kvs))) ∨ (T = "set" ∧ ∃ S n, H p = some (.set S n))
  | _ => False
theorem tyV_is {pins : List (Addr × Obj)} {σ : St} {H : Hp} {s : Shared} {T : String} {x : V} {v : Value} (I : Inv X pins σ H s) (r : RelV x v) (ty : tyV X.K T x H) :
    s.TypeIs v T ∧ ∀ a, v = .ref a → ∃ ob, s.heap.get? a = some ob ∧ ob.dict = none := by
  cases x with
  | str z =>
    obtain ⟨t, rfl⟩ := r
    cases (show T = "str" from ty)
    exact ⟨typeIs_str s z t, fun _ e => nomatch e⟩
  | int i =>
    obtain ⟨t, rfl⟩ := r
    cases (show T = "int" from ty)
    exact ⟨typeIs_int s i t, fun _ e => nomatch e⟩
  | ref p =>
    cases r
    rcases ty with ⟨rfl, xs, hq⟩ | ⟨rfl, o, hk, hc, hd⟩ | ⟨rfl, hk⟩ | ⟨rfl, S, n, hk⟩
    · obtain ⟨its, _, pl, _⟩ := I.list hq
      refine ⟨pl.isList.typeIs, fun a e => ?_⟩
      cases e
      obtain ⟨o, n, e, c, hd, _⟩ := pl
      exact ⟨o, e, hd⟩
    · refine ⟨⟨o, I.kIn p o hk, hc⟩, fun a e => ?_⟩
      cases e
      exact ⟨o, I.kIn _ o hk, hd⟩
    · have z : ∃ o, s.heap.get? p = some o ∧ o.ExactDict := by
        rcases hk with ⟨kvs, hk⟩ | ⟨kvs, hk⟩
        · obtain ⟨_, _, _, _, o, _, _, e, ex, _⟩ := I.hok p _ hk
          exact ⟨o, e, ex⟩
        · obtain ⟨_, _, _, _, o, _, _, e, ex, _⟩ := I.hok p _ hk
          exact ⟨o, e, ex⟩
      obtain ⟨o, e, ex⟩ := z
      refine ⟨⟨o, e, ex.1⟩, fun a e2 => ?_⟩
      cases e2
      exact ⟨o, e, ex.2.1⟩
    · obtain ⟨o, _, _, _, e, ex, _⟩ := I.hok p _ hk
      refine ⟨⟨o, e, ex.1⟩, fun a e2 => ?_⟩
      cases e2
      exact ⟨o, e, ex.2.1⟩
  | _ => exact False.elim ty
def tBM0 (K : PySem.W.Frag) (T : String) (r : V → List V → Hp → VK → Prop) (to : TE) : TE := fun σ H Q => to σ H fun x H1 => tyV K T x H1 ∧ r x [] H1 Q
def tBM (K : PySem.W.Frag) (T : String) (r : V → List V → Hp → VK → Prop) (to : TE) (t : TA) : TE := fun σ H Q => to σ H fun x H1 => tyV K T x H1 ∧ t σ H1 fun xs H2 => r x xs H2 Q
variable {o e : Expr} {es : List Expr} {to : TE} {t : TA} {name : Str} {apos cpos : Pos} {T id : String} {r : V → List V → Hp → VK → Prop}
theorem pe_bm0 (pa : PlainAttrs T) (slot : Slot T name id) (hty : typeOf (.builtin id) = pure (.type "method_descriptor")) (hm : MtR X id r) (ho : PE X o to)
    (hbase : attributeBase o name X.env (eval o X.env) = eval o X.env := by rfl) (hline : (apos.endLine == cpos.line) = true := by rfl) : PE X (.Call (.Attribute o name apos) [] [] cpos) (tBM0 X.K T r to) := by
  intro pins s σ H Q I h
  refine wpAny_Call_method0_late hbase hline (thn (ho pins s σ H _ I h) fun v s1 ⟨x, H1, I1, r1, ty, q1⟩ => ?_)
  obtain ⟨h1, h2⟩ := tyV_is I1 r1 ty
  exact ⟨T, id, pa, slot, hty, h1, h2, Calls.callWith_builtin rfl (PySem.evalArgs_none (hm pins s1 σ H1 x [] v [] Q I1 r1 .nil q1))⟩
theorem pe_bm (pa : PlainAttrs T) (slot : Slot T name id) (hty : typeOf (.builtin id) = pure (.type "method_descriptor")) (hm : MtR X id r) (ho : PE X o to) (ha : PA X (e :: es) t)
    (hbase : attributeBase o name X.env (eval o X.env) = eval o X.env := by rfl)
    (hfew : ((backTo cpos (starEach (e :: es) X.env)).all (fun x => !x.1) && (backToKw cpos (keywordEach [] X.env)).all (fun x => x.1.isSome)
      && decide ((e :: es).length + ([] : List Keyword).length + (if ([] : List Keyword).isEmpty then 0 else 1) < 30)) = true := by rfl)
    (hline : (apos.endLine == cpos.line) = true := by rfl) (hs : starEach (e :: es) X.env = (false, eval e X.env) :: starEach es X.env := by rfl) (hplain : (backTo cpos (starEach es X.env)).any (·.1) = false := by rfl) :
    PE X (.Call (.Attribute o name apos) (e :: es) [] cpos) (tBM X.K T r to t) := by
  intro pins s σ H Q I h
  refine wpAny_Call_method_late hbase hfew hline rfl (thn (ho pins s σ H _ I h) fun v s1 ⟨x, H1, I1, r1, ty, q1⟩ => ?_)
  obtain ⟨h1, h2⟩ := tyV_is I1 r1 ty
  refine ⟨T, id, pa, slot, hty, h1, h2, ?_⟩
  have hA := ha cpos pins s1 σ H1 _ I1 q1
  rw [hs] at hA ⊢
  refine Calls.callWith_builtin (by show (false || (backTo cpos (starEach es X.env)).any (·.1)) = false; rw [hplain] <;> rfl) (Calls.evalArgs_plain ?_)
  exact thn hA fun us s2 ⟨vs, H2, I2, r2, q2⟩ => hm pins s2 σ H2 x vs v us Q I2 r1 r2 q2
/- xs.append(e), list.index on a module's tuple .. are MtR facts of 06m -/
end
end L2
namespace L2
open PySem PySem.Spec PyProof.Rows
def MtM (X : Cx) (id : String) (r : V → List V → Hp → VK → Prop) : Prop :=
  ∀ (pins : List (Addr × Obj)) (s : Shared) (σ : St) (H : Hp) (x : V) (xs : List V) (v : Value) (us : List Value) (Q : VK), Inv X pins σ H s → RelV x v → Vals xs us → r x xs H Q →
    wpAny (model X.prog X.w) X.A (call (.builtin id) (v :: us)) (EP X pins σ Q) X.xe s
/-! ### lists of values -/
theorem Vals.one : ∀ {x : V} {us : List Value}, Vals [x] us → ∃ u, us = [u] ∧ RelV x u
  | _, _, .cons r .nil => ⟨_, rfl, r⟩
theorem Vals.two : ∀ {x y : V} {us : List Value}, Vals [x, y] us → ∃ u v, us = [u, v] ∧ RelV x u ∧ RelV y v
  | _, _, _, .cons r (.cons q .nil) => ⟨_, _, rfl, r, q⟩
theorem Vals.zero : ∀ {us : List Value}, Vals [] us → us = []
  | _, .nil => rfl
theorem Vals.eraseIdx : ∀ {xs : List V} {us : List Value} (i : Nat), Vals xs us → Vals (xs.eraseIdx i) (us.eraseIdx i)
  | _, _, _, .nil => .nil
  | _, _, 0, .cons _ t => t
  | _, _, i + 1, .cons r t => .cons r (Vals.eraseIdx i t)
theorem Vals.reverse {xs : List V} {us : List Value} (h : Vals xs us) : Vals xs.reverse us.reverse := by
  induction h with
  | nil => exact .nil
  | cons r t ih => rw [List.reverse_cons, List.reverse_cons]; exact Vals.append ih (.cons r .nil)
theorem Vals.rep {xs : List V} {us : List Value} (h : Vals xs us) : ∀ k : Nat, Vals (List.replicate k xs).flatten (List.replicate k us).flatten
  | 0 => .nil
  | k + 1 => by
    rw [List.replicate_succ, List.replicate_succ, List.flatten_cons, List.flatten_cons]
    exact Vals.append h (Vals.rep h k)
theorem foldl_rep (its : List Value) : ∀ (k : Nat) (acc : List Value),
    List.foldl (fun x1 x2 => x1 ++ x2) acc.toArray (List.replicate k its.toArray) = (acc ++ (List.replicate k its).flatten).toArray
  | 0, acc => by simp
  | k + 1, acc => by
    have e : acc.toArray ++ its.toArray = (acc ++ its).toArray := by simp
    have e2 : (acc ++ its) ++ (List.replicate k its).flatten = acc ++ (List.replicate (k + 1) its).flatten := by
      rw [List.replicate_succ, List.flatten_cons, List.append_assoc]
    rw [← e2, ← foldl_rep its k (acc ++ its), ← e, List.replicate_succ, List.foldl_cons]
section
variable {X : Cx} {pins : List (Addr × Obj)} {σ : St} {H : Hp} {s : Shared} {l b : Addr} {xs ys zs : List V}
/-! ### the two steps: a tracked list is rewritten, a new list is laid -/
theorem Inv.lset {its its' : List Value} {n : Nat} {f : Array Value → Array Value} {t' : Nat} (I : Inv X pins σ H s) (hH : H l = some (.lst xs))
    (e : s.heap.get? l = some { cls := .type "list", data := .seq its.toArray n }) (hf : f its.toArray = its'.toArray) (hv : Vals ys its') (hz : ys.length ≤ sizeLine) :
    Inv X pins σ (upd H l (.lst ys)) { s with heap := s.heap.update l (Obj.mapSeq f), toks := t' } := by
  have q := PySem.IsL.update e f
  rw [hf] at q
  refine I.write (x := l) (e := l) (by rw [hH]; exact trivial) (.inl rfl) (fun b' u hb hu => (Heap.get?_update_other s.heap (Obj.mapSeq f) (Ne.symm hb)).trans hu) ⟨_, q⟩ ?_
  exact ⟨hz, its', _, hv, q⟩
theorem Inv.lnew {its : List Value} {t' : Nat} (I : Inv X pins σ H s) (hv : Vals ys its) (hz : ys.length ≤ sizeLine) :
    Inv X pins σ (upd H s.heap.objs.size (.lst ys)) { s with heap := s.heap.push { cls := .type "list", data := .seq its.toArray }, toks := t' } :=
  I.laid (fun _ _ q => Heap.get?_push_of_some _ q) (Nat.le_refl _) ⟨hz, its, 0, hv, Heap.get?_push_size _ rfl⟩
theorem Inv.fresh (I : Inv X pins σ H s) : H s.heap.objs.size = none := I.hok.fresh (Nat.le_refl _)
theorem Inv.lstM (I : Inv X pins σ H s) (hH : H l = some (.lst xs)) : xs.length ≤ sizeLine ∧ ∃ (its : List Value) (n : Nat), Vals xs its ∧ xs.length = its.length ∧ s.heap.get? l = some { cls := .type "list", data := .seq its.toArray n } := by
  obtain ⟨z, its, n, r, e⟩ := I.hok l _ hH
  exact ⟨z, its, n, r, r.length, e⟩
theorem notLongL {n : Nat} (h : n ≤ sizeLine) : Builtin.List.listTooLong n = false := by
  unfold Builtin.List.listTooLong
  exact decide_eq_false (by omega)
end
section
variable {X : Cx}
/-! ### methods -/
def rAppend : V → List V → Hp → VK → Prop := fun x vs H Q => ∃ l xs y, x = .ref l ∧ vs = [y] ∧ H l = some (.lst xs) ∧ xs.length < sizeLine ∧ Q .non (upd H l (.lst (xs ++ [y])))
theorem mt_append : MtM X "list.append" rAppend := by
  intro pins s σ H x vs v us Q I rx rv h
  obtain ⟨l, xs, y, rfl, rfl, hH, hz, q⟩ := h
  cases rx
  obtain ⟨u, rfl, ru⟩ := rv.one
  obtain ⟨z, its, n, r, hl, e⟩ := I.lstM hH
  refine call_meets F.slot_list_append ⟨_, e, rfl⟩ F.entry_list_append (F.args_list_append_2 _ _) (PySem.list_append l its.toArray n u (by rw [List.size_toArray]; omega)) ⟨e, ?_⟩
  refine ⟨.non, _, I.lset (its' := its ++ [u]) hH e (by simp) (r.append (.cons ru .nil)) ?_, rfl, q⟩
  rw [List.length_append, List.length_singleton]
  omega
/-! ### list + list, list += list, list * int -/
def rCat : R2 := fun x y H Q => ∃ l b xs zs, x = .ref l ∧ y = .ref b ∧ H l = some (.lst xs) ∧ H b = some (.lst zs) ∧ xs.length + zs.length ≤ sizeLine ∧ ∀ p, H p = none → Q (.ref p) (upd H p (.lst (xs ++ zs)))
theorem op_cat : OpR X (binaryOp .Add) rCat := by
  intro pins s σ H x y v u Q I rx ry h
  obtain ⟨l, b, xs, zs, rfl, rfl, hH, hB, hz, q⟩ := h
  cases rx
  cases ry
  obtain ⟨z, its, n, r, hl, e⟩ := I.lstM hH
  obtain ⟨z2, its2, n2, r2, hl2, e2⟩ := I.lstM hB
  refine PySem.P.add_list e e2 ?_ (by rw [List.size_toArray, List.size_toArray]; omega)
  have ea : its.toArray ++ its2.toArray = (its ++ its2).toArray := by simp
  rw [ea]
  exact ⟨.ref _, _, I.lnew (t' := s.toks) (r.append r2) (by rw [List.length_append]; omega), rfl, q _ I.fresh⟩
/-- a list times an int (a negative one is nothing) -/
def rRep : R2 := fun x y H Q => ∃ l k xs, x = .ref l ∧ y = .int k ∧ H l = some (.lst xs) ∧ -(2 ^ 63) ≤ k ∧ k < 2 ^ 63 ∧ xs.length * k.toNat ≤ sizeLine ∧
  ∀ p, H p = none → Q (.ref p) (upd H p (.lst (List.replicate k.toNat xs).flatten))
theorem len_rep {α : Type} (xs : List α) (k : Nat) : (List.replicate k xs).flatten.length = k * xs.length := by
  induction k with
  | zero => simp
  | succ k ih => rw [List.replicate_succ, List.flatten_cons, List.length_append, ih, Nat.succ_mul, Nat.add_comm]
theorem op_rep : OpR X (binaryOp .Mult) rRep := by
  intro pins s σ H x y v u Q I rx ry h
  obtain ⟨l, k, xs, rfl, rfl, hH, h1, h2, hz, q⟩ := h
  cases rx
  obtain ⟨t, rfl⟩ := ry
  obtain ⟨z, its, n, r, hl, e⟩ := I.lstM hH
  have hlen : its.toArray.size * k.toNat ≤ sizeLine := by rw [List.size_toArray, ← hl]; exact hz
  have hcap : ¬ its.toArray.size * k.toNat > (2 ^ 63 - 1) / 8 := by
    have : (sizeLine : Nat) ≤ (2 ^ 63 - 1) / 8 := by decide
    omega
  have hfit : ¬ (!Builtin.List.listFitsIndex k) = true := by
    rw [fitsIndex_both h1 h2]
    exact Bool.false_ne_true
  have hlong : ¬ Builtin.List.listTooLong (its.toArray.size * k.toNat) = true := by
    rw [notLongL hlen]
    exact Bool.false_ne_true
  have hnew : List.foldl (fun x1 x2 => x1 ++ x2) #[] (List.replicate (if its.toArray.isEmpty = true then 0 else k.toNat) its.toArray) = (List.replicate k.toNat its).flatten.toArray := by
    have f0 : ∀ m : Nat, List.foldl (fun x1 x2 => x1 ++ x2) #[] (List.replicate m its.toArray) = (List.replicate m its).flatten.toArray := fun m => by
      have := foldl_rep its m []
      rw [List.nil_append] at this
      exact this
    rw [f0]
    cases its with
    | nil => simp
    | cons a r' => rw [if_neg (by simp)]
  refine wpAny_binaryOp_repeat_ref (T := "list") (U := "int") (by decide) ⟨_, e, rfl⟩ (fun s' => typeIs_int s' k t) noFill_list_mul F.fills_int_mul F.slot_int_rmul repeat_list F.slot_int_index.lookup
    (call_meets F.slot_int_rmul (typeIs_int s k t) F.entry_int_rmul (F.args_int_rmul_2 _ _) (int___rmul___int_list k t l its.toArray n)
      ⟨e, rfl, ⟨_, e, rfl⟩, call_meets F.slot_list_mul ⟨_, e, rfl⟩ F.entry_list_mul (F.args_list_mul_2 _ _) (AutoListH.list___mul___list_int_3 l its.toArray n k t hfit hcap hlong) ⟨e, ?_⟩⟩)
  rw [hnew]
  exact ⟨.ref _, _, I.lnew (t' := s.toks) (r.rep k.toNat) (by rw [len_rep, Nat.mul_comm]; exact hz), rfl, q _ I.fresh⟩
end
/-! ### xs[a:b] = ys -/
section
variable {prog : Program} {w : World} {A : Around} {E : Value → Shared → Prop} {s : Shared}
set_option maxRecDepth 100000 in
end
section
variable {X : Cx}
end
end L2
namespace L2
open PySem PySem.Spec PyProof.Rows
/-! ### lists of pairs as tables -/
section
variable {κ : Type} [DecidableEq κ]
def valV (kvs : List (κ × V)) (k : κ) : Option V := (kvs.find? fun kv => decide (kv.1 = k)).map (·.2)
/-- in its place, or at the end -/
def putK (kvs : List (κ × V)) (k : κ) (v : V) : List (κ × V) :=
  if (kvs.any fun kv => decide (kv.1 = k)) = true then kvs.map (fun kv => if kv.1 = k then (kv.1, v) else kv) else kvs ++ [(k, v)]
def dropK (kvs : List (κ × V)) (k : κ) : List (κ × V) := kvs.filter fun kv => decide (kv.1 ≠ k)
theorem valV_pos {p : κ × V} {r : List (κ × V)} {k : κ} (e : p.1 = k) : valV (p :: r) k = some p.2 := by simp [valV, List.find?_cons, e]
theorem valV_neg {p : κ × V} {r : List (κ × V)} {k : κ} (e : ¬ p.1 = k) : valV (p :: r) k = valV r k := by simp [valV, List.find?_cons, e]
theorem RelO.isSome_eq {o : Option V} {u : Option Value} (r : RelO o u) : o.isSome = u.isSome := by
  cases o with
  | none => cases u with
    | none => rfl
    | some _ => exact (show False from r).elim
  | some _ => cases u with
    | none => exact (show False from r).elim
    | some _ => rfl
theorem RelO.getD {o : Option V} {u : Option Value} {d : V} {d' : Value} (r : RelO o u) (rd : RelV d d') : RelV (o.getD d) (u.getD d') := by
  cases o with
  | none => cases u with
    | none => exact rd
    | some _ => exact (show False from r).elim
  | some _ => cases u with
    | none => exact (show False from r).elim
    | some _ => exact r
/-- raw tables of the same keys -/
theorem KV.val {kvs : List (κ × V)} {vs : List (κ × Value)} (r : KV kvs vs) (k : κ) : RelO (valV kvs k) (valueAt vs k) := by
  unfold KV at r
  induction r with
  | nil => exact True.intro
  | @cons p q ps qs h t ih =>
    obtain ⟨h1, h2⟩ := h
    by_cases e : p.1 = k
    · have e' : q.1 = k := h1.symm.trans e
      have b : valueAt (q :: qs) k = some q.2 := by simp [valueAt, List.find?_cons, e']
      rw [valV_pos e, b]; exact h2
    · have e' : ¬ q.1 = k := fun z => e (h1.trans z)
      have b : valueAt (q :: qs) k = valueAt qs k := by simp [valueAt, List.find?_cons, e']
      rw [valV_neg e, b]; exact ih
theorem KV.any {kvs : List (κ × V)} {vs : List (κ × Value)} (r : KV kvs vs) (k : κ) : (kvs.any fun kv => decide (kv.1 = k)) = vs.any fun kv => decide (kv.1 = k) := by
  unfold KV at r
  induction r with
  | nil => rfl
  | cons h t ih => rw [List.any_cons, List.any_cons, ih, h.1]
theorem KV.repl {kvs : List (κ × V)} {vs : List (κ × Value)} (r : KV kvs vs) (k : κ) {y : V} {u : Value} (ry : RelV y u) :
    KV (kvs.map fun kv => if kv.1 = k then (kv.1, y) else kv) (vs.map fun kv => if kv.1 = k then (kv.1, u) else kv) := by
  unfold KV at r ⊢
  induction r with
  | nil => exact .nil
  | @cons p q ps qs h t ih =>
    rw [List.map_cons, List.map_cons]
    refine .cons ?_ ih
    obtain ⟨h1, h2⟩ := h
    by_cases e : p.1 = k
    · rw [if_pos e, if_pos (h1.symm.trans e)]; exact ⟨h1, ry⟩
    · rw [if_neg e, if_neg (fun z => e (h1.trans z))]; exact ⟨h1, h2⟩
theorem KV.put {kvs : List (κ × V)} {vs : List (κ × Value)} (r : KV kvs vs) (k : κ) {y : V} {u : Value} (ry : RelV y u) : KV (putK kvs k y) (stored vs k u) := by
  unfold putK stored
  rw [r.any k]
  by_cases e : (vs.any fun kv => decide (kv.1 = k)) = true
  · rw [if_pos e, if_pos e]; exact r.repl k ry
  · rw [if_neg e, if_neg e]; exact Paired.snoc r ⟨rfl, ry⟩
theorem KV.drop {kvs : List (κ × V)} {vs : List (κ × Value)} (r : KV kvs vs) (k : κ) : KV (dropK kvs k) (without vs k) := by
  unfold KV at r ⊢
  unfold dropK without
  induction r with
  | nil => exact .nil
  | @cons p q ps qs h t ih =>
    obtain ⟨h1, h2⟩ := h
    rw [List.filter_cons, List.filter_cons]
    by_cases e : p.1 = k
    · have a : ¬ decide (p.1 ≠ k) = true := by simp [e]
      have b : ¬ decide (q.1 ≠ k) = true := by simp [h1.symm.trans e]
      rw [if_neg a, if_neg b]; exact ih
    · have e' : ¬ q.1 = k := fun z => e (h1.trans z)
      have a : decide (p.1 ≠ k) = true := by simp [e]
      have b : decide (q.1 ≠ k) = true := by simp [e']
      rw [if_pos a, if_pos b]; exact .cons ⟨h1, h2⟩ ih
theorem KV.keys {kvs : List (κ × V)} {vs : List (κ × Value)} (r : KV kvs vs) : kvs.map (·.1) = vs.map (·.1) := by
  unfold KV at r
  induction r with
  | nil => rfl
  | cons h t ih => rw [List.map_cons, List.map_cons, ih, h.1]
theorem KV.length {kvs : List (κ × V)} {vs : List (κ × Value)} (r : KV kvs vs) : kvs.length = vs.length := Paired.length r
end
/-! ### a tracked dict, its keys ints and texts or tuples of these -/
theorem kV_is {P : Program} {w : World} {k : Key} {u : Value} (r : RelV (kV k) u) : (mixKind P w).is k u = true := by
  cases k with
  | inl i => obtain ⟨t, e⟩ := (show ∃ t, u = Value.int i t from r); subst e; exact mixKind_int P w i t
  | inr x => obtain ⟨t, e⟩ := (show ∃ t, u = Value.str x t from r); subst e; exact mixKind_str P w x t
section
variable {P : Program} {w : World} {H : Hp} {h : Heap} {a : Addr}
end
section
variable {X : Cx} {pins : List (Addr × Obj)} {σ : St} {H : Hp} {s : Shared} {a : Addr} {y v : V} {u r : Value} {o : Option V} {A : Around} {E : Value → Shared → Prop}
end
section
variable {X : Cx} {pins : List (Addr × Obj)} {σ : St} {H : Hp} {s : Shared} {a : Addr} {kvs : List (Key × V)} {k : Key} {u : Value} {A : Around} {E : Value → Shared → Prop}
end
/-! ### readings and rules -/
/-- the element of a subscription, not a slice -/
def NoSl (i : Expr) : Prop := ∀ ov iv, subscripted i false ov iv = operate [ov, iv] (getItem ov iv)
theorem subD_of {prog : Program} {w : World} {A : Around} {E : Value → Shared → Prop} {s : Shared} {env : Env} {value slice : Expr} {pos : Pos} {T id : String} {Q : Value → Shared → Prop}
    (hl : typeLookup (.type T) "__getitem__" = pure (some (.builtin id))) (hs : NoSl slice)
    (h : wpAny (model prog w) A (eval value env) (fun o s₁ => wpAny (model prog w) A (eval slice env) (fun i s₂ => s₂.TypeIs o T ∧ wpAny (model prog w) A (getItem o i) Q E s₂) E s₁) E s) :
    wpAny (model prog w) A (eval (.Subscript value slice pos) env) Q E s := by
  refine Subscript_ (wpAny_mono h (fun o s₁ h₁ => wpAny_mono h₁ (fun i s₂ h₂ => ?_) fun _ _ x => x) fun _ _ x => x)
  obtain ⟨hT, h₂⟩ := h₂
  unfold subscriptTail
  refine wpAny_bind ?_
  rw [getitemInPython_of_ne hT.not_modules]
  refine wpAny_bind (wpAny_specialOf hT hl ?_)
  have fin : wpAny (model prog w) A (subscripted slice false o i) (fun r s₃ => wpAny (model prog w) A (letTemporaryGo value o r >>= fun _ => pure r) Q E s₃) E s₂ := by
    rw [hs o i]
    exact wpAny_operating (wpAny_mono h₂ (fun r s₃ h₃ => wpAny_bind (wpAny_letTemporaryGo (wpAny_pure h₃))) fun _ _ x => x)
  first
    | exact wpAny_pure (wpAny_bind fin)
    | exact wpAny_bind (wpAny_pure (wpAny_bind fin))
    | exact wpAny_bind fin
section
variable {X : Cx} {o i e value : Expr} {pos pos' tpos : Pos} {td ty tv : TE}
end
section
variable {X : Cx} {pos : Pos}
end
section
variable {X : Cx} {pins : List (Addr × Obj)} {σ : St} {H : Hp} {s : Shared} {a : Addr} {y d : V} {u r : Value} {o : Option V} {A : Around} {E : Value → Shared → Prop}
end
section
variable {X : Cx} {o e f : Expr} {apos cpos : Pos} {td ty tx : TE}
end
/-! ### dict(d): a copy -/
section
variable {X : Cx} {pins : List (Addr × Obj)} {σ : St} {H : Hp} {s : Shared} {a : Addr} {kvs : List (Key × V)} {A : Around} {E : Value → Shared → Prop}
end
section
variable {X : Cx} {pins : List (Addr × Obj)} {σ : St} {H : Hp} {s : Shared} {a : Addr} {y : V} {u : Value} {A : Around} {E : Value → Shared → Prop}
end
end L2
namespace Att
open PySem PySem.W PySem.Calls PyProof.Rows
/-! ### the script -/
theorem ints_of_wellAll {P : Params} {h : Heap} : ∀ (ns : List Int) (vs : List Value), WellAll P h vs (ns.map WData.int) → IntsAre vs ns := by
  intro ns
  induction ns with
  | nil =>
    intro vs w
    rw [List.map_nil] at w
    cases w
    exact .nil
  | cons n ns ih =>
    intro vs w
    rw [List.map_cons] at w
    cases w with
    | cons a b =>
      cases a
      exact .cons _ _ (ih _ b)
theorem script_of {l : OpenLaw} {n : Nat} (hn : l.most = some n) {P : Params} {h : Heap} {args : List WData} {vals : List Value}
    (hpre : l.row.toRowW.claim.pre args = true) (hwl : WellAll P h vals args) :
    ∃ a vs ns, vals = [Value.ref a] ∧ args = [WData.list (ns.map WData.int)] ∧ h.get? a = some { cls := .type "list", data := .seq vs.toArray } ∧ IntsAre vs ns ∧ ns.length ≤ n := by
  have hsh : WShape.hasAll [] args [.list .int] = true := (pre_splitW hpre).1
  have hc : l.pre.holds [] { args := args } = true := (pre_splitW hpre).2
  obtain ⟨d, r, rfl, h1, h2⟩ := hasAllW_cons hsh
  obtain rfl := hasAllW_nil h2
  obtain ⟨xs, rfl, h3⟩ := hasW_list h1
  obtain ⟨ns, rfl⟩ := items_int h3
  have hlen : ns.length ≤ n := by
    unfold OpenLaw.pre at hc
    have h4 : (WTm.not (.lt (.lit (.int (n : Int))) (.len (.arg 0)))).holds [] { args := [.list (ns.map .int)] } = true := by
      have h4 := (holds_andW hc).1
      rw [hn] at h4
      exact h4
    have h5 := condW_of h4 (w_not (w_lt w_lit (w_len_list (w_arg rfl))))
    rw [List.length_map] at h5
    refine Nat.le_of_not_lt fun q => ?_
    have q' : (n : Int) < ((ns.length : Nat) : Int) := by omega
    first
      | (rw [decide_eq_true q'] at h5; exact absurd h5 (by decide))
      | (simp at h5; omega)
  cases hwl with
  | cons w1 w2 =>
    cases w2
    cases w1 with
    | list ho hall => exact ⟨_, _, ns, rfl, rfl, ho, ints_of_wellAll ns _ hall, hlen⟩
theorem post_true (l : OpenLaw) (args : List WData) : l.row.toRowW.claim.post args (.bool true) args = true :=
  postW_of (r := l.row.toRowW) (X := (true == true))
    (show WShape.has [] (.bool true) .bool = true by first | rfl | decide | simp [WShape.has, WShape.arms, WShape.armsAll])
    (show (WTm.eq .res (.lit (.bool true))).value [] { args := args, res := some (.bool true), after := args } = some (.bool (true == true)) from w_eq_bool (w_res rfl) w_lit) rfl
/-- the same from a codeAny of the CALL (for a layer whose function contracts speak of calls) -/
theorem attach_call {l : OpenLaw} {n : Nat} {q : Program} {loose : List Str} {XP : (Str → Option Value) → Heap → Prop} {YP : World → Heap → Prop} {d : DefRec}
    (hn : l.most = some n) (hdf : d.params.defaults = [])
    (call : ∀ (w : World) (s₀ s₁ : Shared) (mg mb : Str → Option Value) (fa : Addr) (o : Obj) (pm cd doc : Value) (a : Addr) (vs : List Value) (ns : List Int),
      Ground q loose [] XP w s₀ mg mb s₁.heap → YP w s₁.heap →
      s₁.heap.get? fa = some o → o.data = .func (docDef d.name d.params d.body d.scope pm cd doc) → s₁.heap.CodeRec cd d.name → mg d.name = some (.ref fa) →
      s₁.heap.get? a = some { cls := .type "list", data := .seq vs.toArray } → IntsAre vs ns → ns.length ≤ n → s₁.gens = #[] →
      codeAny (model l.prog w) callerA (.call (.ref fa) ⟨[.ref a], []⟩) (fun r s' => r = .ok (.ret (.bool true)) ∧ OldK s₁.heap s'.heap ∧ s'.os = s₁.os ∧ AllBare s'.gens) s₁) :
    WalkO q loose XP YP l.row.toRowW d [] (fun f vs => PySem.call f vs) := by
  intro w s₀ s₁ mg mb G Y fa o pm cd doc dV kV ho hd hcd hD hmg hg args vals as hpre hlay hrd hwl hlo
  obtain rfl : dV = .none := Dflts.none hD hdf
  obtain rfl : kV = .none := Dflts.noKw hD
  obtain ⟨a, vs, ns, rfl, rfl, hobj, hints, hlen⟩ := script_of hn hpre hwl
  refine enter_call (codeAny_mono (call w s₀ s₁ mg mb fa o pm cd doc a vs ns G Y ho (fd_plain hd) hcd hmg hobj hints hlen hg) fun r s' hq => ?_)
  obtain ⟨rfl, h2, h3, h4⟩ := hq
  exact ⟨.inl ⟨.bool true, .bool true, [], rfl, fun _ => rfl, .bool true, post_true l _, fun _ => ⟨List.Pairwise.nil, fun _ hm => (nomatch hm)⟩⟩, h2, h3, h4⟩
/-! ### rules over ANY heap (no ledger) from facts about the written part K: the library's own take a ledger (News) for what they write -/
section
variable {prog : Program} {w : World} {A : Around} {E : Value → Shared → Prop} {s : Shared} {K : Frag}
def ledger (h : Heap) (L d : Addr) : List (Addr × Obj) := (List.range h.objs.size).filterMap fun a => if a = L ∨ a = d then none else (h.get? a).map fun o => (a, o)
end
end Att
namespace L2
open PySem PySem.Spec PyProof.Rows
theorem vals_ints : ∀ {vs : List Value} {ns : List Int}, IntsAre vs ns → Vals (ns.map V.int) vs
  | _, _, .nil => .nil
  | _, _, .cons n t h => .cons ⟨t, rfl⟩ (vals_ints h)
/-- nothing is tracked but the script, known to the object (or it is an object of the module) -/
def Only (H : Hp) : Prop := ∀ b, H b = none ∨ ∃ o xs, H b = some (.frz o (.lst xs))
/-- THE HEAD: the law's promise, at the heap behind the top. F, the promise of the law's def, may use that base is part of the heap (so K.In base, base.Ns mainGlobals mg stand in Mod) -/
theorem law_call {P : Program} {w : World} {K : PySem.W.Frag} {mg mb : Str → Option Value} {CX : CXT} {k : Nat} {fa a : Addr} {fd : FuncData} {x : Str} {sp : Sp} {s₁ : Shared} {vs : List Value} {ns : List Int}
    (KX : K.In s₁.heap) (hns : s₁.heap.Ns mainGlobals mg) (hb : s₁.heap.Ns builtinsNs mb) (hbb : ∀ x : Str, x ≠ "__name__" → mb x = bootBuiltins x) (hlim : s₁.heap.NoLimit) (hg : s₁.gens = #[])
    (ha : s₁.heap.get? a = some { cls := .type "list", data := .seq vs.toArray }) (hi : IntsAre vs ns) (hl : ns.length ≤ sizeLine) (hr : Room k callerA)
    (F : ∀ base : Heap, K.In base → base.Ns mainGlobals mg → FnOk P w K mg base CX k fa fd [x] sp) (hbind : ∀ (s : Shared) (u : Value), BindsTo s fd ⟨[u], []⟩ [(x, u)])
    (hsp : ∀ H : Hp, Only H → SqL K H a (ns.map V.int) → sp [.ref a] H (fun v _ => v = .bl true) fun _ _ _ => False)
    (hCX : ∀ H e s', CX [] H s₁ (fun _ _ _ => False) e s' → False) :
    codeAny (model P w) callerA (.call (.ref fa) ⟨[.ref a], []⟩) (fun r s' => r = .ok (.ret (.bool true)) ∧ OldK s₁.heap s'.heap ∧ s'.os = s₁.os ∧ AllBare s'.gens) s₁ := by
  have rv := vals_ints hi
  have lenV := hi.length
  -- from an abstract heap in which nothing but the script may be tracked
  have core : ∀ H : Hp, Only H → SqL K H a (ns.map V.int) → HOk P w H s₁.heap → (∀ b, H b ≠ none → b = a) → (H a ≠ none → K.lookup a = none) →
      codeAny (model P w) callerA (.call (.ref fa) ⟨[.ref a], []⟩) (fun r s' => r = .ok (.ret (.bool true)) ∧ OldK s₁.heap s'.heap ∧ s'.os = s₁.os ∧ AllBare s'.gens) s₁ := by
    intro H hO hS hok hA hK
    have base_of : ∀ {b : Addr} {o : Obj}, s₁.heap.get? b = some o → H b = none → (hidT s₁.heap H).get? b = some o := fun e n => hidT_get e n
    have noA : ∀ {b : Addr} {o : Obj} {es : Array DictEntry} {ep : Nat}, s₁.heap.get? b = some o → o.data = .dict es ep → H b = none := fun {b o es ep} e d => by
      cases q : H b with
      | none => rfl
      | some u =>
        have e' : b = a := hA b (by rw [q]; simp)
        subst e'
        rw [ha] at e; cases e
        have d' : Data.seq vs.toArray _ = Data.dict es ep := d
        cases d'
    have nsK : ∀ {b : Addr} {m : Str → Option Value}, s₁.heap.Ns b m → (hidT s₁.heap H).Ns b m := fun {b m} ⟨o, es, ep, e, d, r⟩ => ⟨o, es, ep, base_of e (noA e d), d, r⟩
    have hKb : K.In (hidT s₁.heap H) := fun b o e => base_of (KX b o e) (by
      cases q : H b with
      | none => rfl
      | some u =>
        have e' : b = a := hA b (by rw [q]; simp)
        subst e'
        rw [hK (by rw [q]; simp)] at e; cases e)
    have hM : Mod K mg (hidT s₁.heap H) := ⟨hKb, nsK hns, ⟨mb, nsK hb, hbb⟩, let ⟨mc, h1, h2⟩ := hlim; ⟨mc, nsK h1, h2⟩⟩
    have e0 : Env0 P w K mg (hidT s₁.heap H) callerA [] s₁ H := ⟨rfl, hM, fun b o e => of_hidT e, Nat.le_of_eq (hidT_size _ _), trivial, fun b hb => absurd (show b ∈ ([] : List Addr) from hb) (by simp), hok, .of_eq hg⟩
    refine codeAny_mono ((F _ hKb (nsK hns)).run callerA [] s₁ H ⟨[.ref a], []⟩ [.ref a] [.ref a] _ _ hr e0 (hbind s₁ (.ref a)) (.cons rfl .nil) (hsp H hO hS)) fun r s' h => ?_
    cases r with
    | error e => exact (hCX H e s' h).elim
    | ok fl =>
      cases fl with
      | next => exact False.elim h
      | brk => exact False.elim h
      | cont => exact False.elim h
      | ret u =>
        obtain ⟨v, H', os, bare, un, hok', r', q⟩ := h
        have q' : v = .bl true := q
        subst q'
        obtain rfl : u = Value.bool true := r'
        refine ⟨rfl, OldK.of_keep fun b o e => ?_, os, bare⟩
        cases q : H b with
        | none => exact un.keep b o e q (by intro z; exact absurd (show b ∈ ([] : List Addr) from z) (by simp)) (by simp)
        | some u =>
          rcases hO b with z | ⟨ob, xs, z⟩
          · rw [q] at z; cases z
          · have z2 := un.frzs b ob _ z
            obtain ⟨e1, _⟩ := hok b _ z
            obtain ⟨e2, _⟩ := hok' b _ z2
            rw [e] at e1; cases e1
            exact e2
  cases hk : K.lookup a with
  | some o =>
    -- the script is one of the module's own objects
    have e := KX a o hk
    rw [ha] at e
    cases e
    refine core (fun _ => none) (fun _ => .inl rfl) (.inr ⟨_, vs.toArray, _, hk, rfl, rfl, rfl, by rw [List.size_toArray, lenV]; exact hl, by simpa using rv⟩) (fun b u z => by have z' : (none : Option HO) = some u := z; cases z') (fun b z => absurd rfl z) fun z => absurd rfl z
  | none =>
    refine core (fun b => if b = a then some (.frz { cls := .type "list", data := .seq vs.toArray } (.lst (ns.map V.int))) else none) (fun b => ?_) (.inl (.inr ⟨{ cls := .type "list", data := .seq vs.toArray }, if_pos rfl⟩)) (fun b u z => ?_) (fun b z => ?_) fun _ => hk
    · by_cases hb : b = a
      · exact .inr ⟨_, _, if_pos hb⟩
      · exact .inl (if_neg hb)
    · by_cases hb : b = a
      · have z' := (if_pos hb).symm.trans z
        cases z'
        subst hb
        exact ⟨ha, by rw [List.length_map]; exact hl, vs, _, rv, ha⟩
      · have z' := (if_neg hb).symm.trans z
        cases z'
    · by_cases hb : b = a
      · exact hb
      · exact absurd (if_neg hb) z
end L2
namespace L2
open PySem PySem.Spec PyProof.Rows
abbrev KOf {K : PySem.W.Frag} {h : Heap} (_ : K.In h) : PySem.W.Frag := K
/-- the goal that k_head leaves (case hc), from the law's promise. F gives the function object fd (K's own) once, then the promise over every base -/
theorem walk_of {l : PySem.W.OpenLaw} {n k : Nat} {q : Program} {loose : List Str} {XP : (Str → Option Value) → Heap → Prop} {YP : World → Heap → Prop} {d : DefRec} {K : Params → PySem.W.Frag} {CX : World → CXT} {sp : World → Sp} {x : Str}
    (hn : l.most = some n) (hn2 : n ≤ sizeLine) (hdf : d.params.defaults = []) (hr : Room k callerA)
    (hY : ∀ (w : World) (h : Heap), YP w h → (K w.params).In h)
    (F : ∀ (w : World) (mg : Str → Option Value) (fa : Addr) (h : Heap), (K w.params).In h → h.Ns mainGlobals mg → mg d.name = some (.ref fa) →
      ∃ fd : FuncData, (∀ (s : Shared) (u : Value), BindsTo s fd ⟨[u], []⟩ [(x, u)]) ∧
        ∀ base : Heap, (K w.params).In base → base.Ns mainGlobals mg → FnOk l.prog w (K w.params) mg base (CX w) k fa fd [x] (sp w))
    (hsp : ∀ (w : World) (H : Hp) (a : Addr) (ns : List Int), ns.length ≤ n → Only H → SqL (K w.params) H a (ns.map V.int) → sp w [.ref a] H (fun v _ => v = .bl true) fun _ _ _ => False)
    (hCX : ∀ (w : World) (H : Hp) (s : Shared) (e : Value) (s' : Shared), CX w [] H s (fun _ _ _ => False) e s' → False) :
    PySem.W.WalkO q loose XP YP l.row.toRowW d [] (fun f vs => PySem.call f vs) := by
  refine Att.attach_call hn hdf fun w s₀ s₁ mg mb fa o pm cd doc a vs ns G Y ho hd hcd hmg hobj hints hlen hg => ?_
  have KX := hY w _ Y
  obtain ⟨fd, hb, hF⟩ := F w mg fa _ KX G.T.g hmg
  exact law_call KX G.T.g G.T.b G.T.builtins G.T.nolimit hg hobj hints (Nat.le_trans hlen hn2) hr hF hb (fun H hO hS => hsp w H a ns hlen hO hS) fun H e s' => hCX w H s₁ e s'
end L2
/- THE LAST THEOREM (shape; LID, My.* are yours):
   My.Adr: a structure of the addresses that your layer names (classes, functions); My.Txt K t: a structure (Prop) of the equations over K;
   My.txt_mk : {K} {implicit addresses ..} (e1 : nsIn K mainGlobals "law" = some (some (.ref f))) (e2 : K.lookup f = some ⟨oc, od, .func (fnOf "law" "law" params body scope dV kV doc pm an cdv ct), sl⟩) (e3 : codeIn K cdv "law" = true) .. : ∃ t, My.Txt K t

set_option maxRecDepth 100000 in
set_option maxHeartbeats 0 in
theorem PySem.Challenge.cw_LID_holds : PySem.Challenge.rw_LID.Holds := by
  w_on; o_law; k_head; (case hw => w_witness2)
  k_fill
  refine L2.walk_of (l := PySem.Challenge.rw_LID) (n := 63) (k := 40) (x := "script") (CX := fun w => ..) (sp := fun _ => My.sp_law) rfl (by decide) rfl ⟨rfl, by decide, by decide⟩ (fun w h Y => PySem.W.kIn_of Y) ?F ?S ?C
  case F =>
    intro w mg fa h KX G hmg
    have T : ∃ t, My.Txt (L2.KOf KX) t := by
      dsimp only [L2.KOf]                          -- K must stand as «<heap const> w.params» for k_is
      refine' My.txt_mk ?e1 ?e2 ?e3 ..
      (case e1 => PySem.W.k_is)                    -- in the order: a name -> its address -> its object -> its parts
      (case e2 => PySem.W.k_is)
      ..
    obtain ⟨t, T⟩ := T
    have e0 := hmg.symm.trans (PySem.W.mg_of KX G T.law)
    cases e0                                       -- fa is the law's own address
    exact ⟨_, fun s u => .of_eq rfl, fun base kb nb => My.law_fn T kb nb⟩     -- if «.of_eq rfl» comes too early: refine' ⟨_, ?b, fun base kb nb => My.law_fn T kb nb⟩; exact fun s u => .of_eq rfl
  case S => exact fun w H a ns hl hO hS => ..
  case C => exact ..
(the tactic k_is has no namespace: write k_is) -/
/-! SHORT WORDS over the layer: a def of the text, its body, what a loop and a test want. -/
namespace L2
open PySem PySem.Spec PyProof.Rows
/-! ### the text by places -/
/-- the j-th statement of a class's body -/
def inClass (s : Stmt) (j : Nat) : Stmt := match s with
  | .ClassDef _ _ _ body _ _ _ _ _ _ _ => body.getD j (.Pass ⟨0, 0, 0, 0⟩)
  | _ => .Pass ⟨0, 0, 0, 0⟩
def defArgs (s : Stmt) : Arguments := match s with
  | .FunctionDef _ a _ _ _ _ _ _ _ _ => a
  | _ => { posonlyargs := [], args := [], vararg := none, kwonlyargs := [], kw_defaults := [], kwarg := none, defaults := [] }
def defBody (s : Stmt) : List Stmt := match s with
  | .FunctionDef _ _ b _ _ _ _ _ _ _ => b
  | _ => []
def defScope (s : Stmt) : Scope := match s with
  | .FunctionDef _ _ _ _ _ _ sc _ _ _ => sc
  | _ => { kind := .function, names := [], isGenerator := false, isCoroutine := false }
/-! ### no exception leaves a def -/
abbrev CX0 : CXT := fun _ _ _ _ _ _ => False
abbrev E0 : XK := fun _ _ _ => False
theorem pass0 {X : Cx} : Passes CX0 X E0 := fun _ _ _ _ _ _ _ h => h.elim
/-! ### a def (or method) of the text as it stands behind the top -/
structure Fun (K : PySem.W.Frag) (x qual : Str) (st : Stmt) (f : Addr) (fd : FuncData) : Prop where
  ex : ∃ (oc : Value) (od : Option Addr) (kV doc pm : Value) (an : Option Addr) (cdv ct : Value) (osl : Array (Option Value)),
    fd = PySem.W.fnOf x qual (defArgs st) (defBody st) (defScope st) .none kV doc pm an cdv ct ∧ K.lookup f = some ⟨oc, od, .func fd, osl⟩ ∧ PySem.W.codeIn K cdv qual = true
  kp : PySem.W.keepIn K (.ref f) = true
section
variable {P : Program} {w : World} {K : PySem.W.Frag} {mg : Str → Option Value} {base : Heap}
/-- THE RULE for a def: its body as a term of rules, and the reading of that term -/
theorem Fun.ok {x qual : Str} {st : Stmt} {f : Addr} {fd : FuncData} {N ps : List Str} {k : Nat} {sp : Sp} (F : Fun K x qual st f fd) (S : FnScope N ps (defScope st)) (len : ∀ vs H Q E, sp vs H Q E → vs.length = ps.length)
    (hbody : ∀ (cdv : Value) (A : Around) (outer : List Env) (s : Shared) (H : Hp) (vs : List V) (Q : VK) (E : XK), Room k (A.deeper (envOfC qual (defScope st) s.heap.objs.size f cdv)) → sp vs H Q E →
      ∃ t, PSs (cxOf CX0 P w K mg base N qual (defScope st) f cdv A outer s H E).nox (defBody st) t ∧ t { nx := fun _ H' => Q .non H', rt := Q } (start N vs) H) : FnOk P w K mg base CX0 (k + 1) f fd ps sp := by
  obtain ⟨oc, od, kV, doc, pm, an, cdv, ct, osl, rfl, lk, hcd⟩ := F.ex
  refine fn_of lk hcd S len fun A outer s H vs Q E hr hsp => ?_
  obtain ⟨t, h, q⟩ := hbody cdv A outer s H vs Q E hr hsp
  exact ⟨t, h.nox, q⟩
/-- how its arguments bind (no defaults): h is «fun _ _ _ _ _ _ us hl => match us, hl with | [_, _], _ => rfl», one _ a parameter -/
theorem Fun.binds {x qual : Str} {st : Stmt} {f : Addr} {fd : FuncData} {ps : List Str} (F : Fun K x qual st f fd)
    (h : ∀ (kV doc pm : Value) (an : Option Addr) (cdv ct : Value) (us : List Value), us.length = ps.length → bindArgs (PySem.W.fnOf x qual (defArgs st) (defBody st) (defScope st) .none kV doc pm an cdv ct) ⟨us, []⟩ = pure (ps.zip us)) : Binds K fd ps [] := by
  obtain ⟨oc, od, kV, doc, pm, an, cdv, ct, osl, rfl, lk, hcd⟩ := F.ex
  exact .all (h kV doc pm an cdv ct)
theorem fun_mk {x qual : Str} {st : Stmt} {f : Addr} {oc : Value} {od an : Option Addr} {osl : Array (Option Value)} {kV doc pm cdv ct : Value} (l : K.lookup f = some ⟨oc, od, .func (PySem.W.fnOf x qual (defArgs st) (defBody st) (defScope st) .none kV doc pm an cdv ct), osl⟩)
    (c : PySem.W.codeIn K cdv qual = true) (k : PySem.W.keepIn K (.ref f) = true) : Fun K x qual st f (PySem.W.fnOf x qual (defArgs st) (defBody st) (defScope st) .none kV doc pm an cdv ct) := ⟨⟨oc, od, kV, doc, pm, an, cdv, ct, osl, rfl, l, c⟩, k⟩
end
/-! ### expressions in short: the name that stands in the i-th slot -/
section
variable {X : Cx}
theorem pv (i : Nat) {x : Str} {pos : Pos} (hN : X.N[i]? = some x := by rfl) (hv : Vis X.env.scope x := by first | exact Or.inl rfl | exact Or.inr (Or.inl rfl) | exact Or.inr (Or.inr rfl)) (hd : (x == ("__debug__" : Str)) = false := by decide)
    (hcd : (x == ("__classdict__" : Str)) = false := by decide) : PE X (.Name x pos) (tVar i) := pe_var hN hv hd hcd
end
theorem iteT {A B : Prop} (h : A) : if true = true then A else B := by
  rw [if_pos rfl]
  exact h
theorem ite2 {c A B : Prop} [Decidable c] (h1 : c → A) (h2 : ¬ c → B) : if c then A else B := by
  by_cases h : c
  · rw [if_pos h]
    exact h1 h
  · rw [if_neg h]
    exact h2 h
/-! ### heaps -/
/-- all that was tracked is as it was -/
def Same (H H' : Hp) : Prop := ∀ b o, H b = some o → H' b = some o
theorem Same.refl (H : Hp) : Same H H := fun _ _ h => h
theorem Same.trans {H H1 H2 : Hp} (a : Same H H1) (b : Same H1 H2) : Same H H2 := fun c o h => b c o (a c o h)
theorem Same.free {H H' : Hp} (e : Same H H') {l : Addr} (h : H' l = Option.none) : H l = Option.none := by
  cases q : H l with
  | none => rfl
  | some o =>
    rw [e l o q] at h
    cases h
theorem Same.seq {K : PySem.W.Frag} {H H' : Hp} {a : Addr} {xs : List V} (e : Same H H') (h : SqL K H a xs) : SqL K H' a xs := by
  rcases h with (h | ⟨o, h⟩) | h
  · exact .inl (.inl (e _ _ h))
  · exact .inl (.inr ⟨o, e _ _ h⟩)
  · exact .inr h
end L2
namespace L2
open PySem PySem.Spec PyProof.Rows
section
variable {X : Cx}
end
/-! ### a dict's pairs: keys that differ -/
section
variable {κ : Type} [DecidableEq κ]
end
end L2
set_option Elab.async false
set_option linter.all false
set_option maxRecDepth 100000
set_option maxHeartbeats 4000000
/-! A LIST COMPREHENSION over the hand layer: its block is a context of its own, the names around it are read through their cells. -/
namespace L2
open PySem PySem.Spec PyProof.Rows
/-- the cells that a block takes from the frame around it -/
def clos (cells : List (Str × Addr)) : List (Str × NameKind) → List (Str × Addr) → List (Str × Addr)
  | [], acc => acc
  | (n, k) :: r, acc => clos cells r (if k = .free then (n, (cells.lookup n).getD 0) :: acc else acc)
theorem clos_sub {cells : List (Str × Addr)} : ∀ {names : List (Str × NameKind)} {acc : List (Str × Addr)}, (∀ y ∈ names, y.2 = .free → ∃ c, cells.lookup y.1 = some c) →
    (∀ x c, acc.lookup x = some c → cells.lookup x = some c) → ∀ x c, (clos cells names acc).lookup x = some c → cells.lookup x = some c
  | [], _, _, h2, x, c, e => h2 x c e
  | (n, k) :: r, acc, h1, h2, x, c, e => by
    refine clos_sub (names := r) (fun y hy => h1 y (List.mem_cons_of_mem _ hy)) ?_ x c e
    intro x c e
    by_cases hk : k = .free
    · subst hk
      rw [if_pos rfl] at e
      obtain ⟨d, hd⟩ := h1 (n, .free) List.mem_cons_self rfl
      rw [hd, Option.getD_some, List.lookup_cons] at e
      cases hx : x == n with
      | true =>
        rw [hx] at e
        have e' : d = c := Option.some.inj e
        rw [eq_of_beq hx, hd, e']
      | false =>
        rw [hx] at e
        exact h2 x c e
    · rw [if_neg hk] at e
      exact h2 x c e
theorem clos_has {cells : List (Str × Addr)} : ∀ {names : List (Str × NameKind)} {acc : List (Str × Addr)} {x : Str}, ((∃ c, acc.lookup x = some c) ∨ (x, NameKind.free) ∈ names) → ∃ c, (clos cells names acc).lookup x = some c
  | [], _, x, h => by
    rcases h with h | h
    · exact h
    · exact absurd h (by simp)
  | (n, k) :: r, acc, x, h => by
    refine clos_has (names := r) (x := x) ?_
    by_cases hr : (x, NameKind.free) ∈ r
    · exact .inr hr
    refine .inl ?_
    by_cases hk : k = .free
    · subst hk
      rw [if_pos rfl, List.lookup_cons]
      cases hx : x == n with
      | true => exact ⟨_, rfl⟩
      | false =>
        rcases h with h | h
        · exact h
        · rcases List.mem_cons.mp h with q | q
          · have : x = n := congrArg Prod.fst q
            rw [this, beq_self_eq_true] at hx
            cases hx
          · exact absurd q hr
    · rw [if_neg hk]
      rcases h with h | h
      · exact h
      · rcases List.mem_cons.mp h with q | q
        · exact absurd (congrArg Prod.snd q).symm hk
        · exact absurd q hr
theorem closureFor_clos {scope : Scope} {env : Env} (h : ∀ y ∈ scope.names, y.2 = .free → ∃ c, env.cells.lookup y.1 = some c) : closureFor scope env = pure (clos env.cells scope.names []) := by
  have go : ∀ (names : List (Str × NameKind)) (acc : List (Str × Addr)), (∀ y ∈ names, y.2 = .free → ∃ c, env.cells.lookup y.1 = some c) →
      (forIn names acc fun (x : Str × NameKind) (r : List (Str × Addr)) => (match x with
        | (name, kind) => if (kind == NameKind.free) = true then (do let a ← cellOf env name; pure (ForInStep.yield ((name, a) :: r))) else pure (ForInStep.yield r) : Sem (ForInStep (List (Str × Addr))))) = (pure (clos env.cells names acc) : Sem _) := by
    intro names
    induction names with
    | nil => intro acc _; rfl
    | cons y r ih =>
      intro acc hy
      obtain ⟨n, k⟩ := y
      rw [List.forIn_cons]
      by_cases hk : k = .free
      · subst hk
        obtain ⟨c, hc⟩ := hy (n, .free) List.mem_cons_self rfl
        have e1 : cellOf env n = pure c := by unfold cellOf; rw [hc]
        show ((if (NameKind.free == NameKind.free) = true then (do let a ← cellOf env n; pure (ForInStep.yield ((n, a) :: acc))) else pure (ForInStep.yield acc)) >>= _) = _
        rw [if_pos (by decide), e1]
        have e2 : clos env.cells ((n, .free) :: r) acc = clos env.cells r ((n, c) :: acc) := by
          show clos env.cells r (if NameKind.free = NameKind.free then (n, (env.cells.lookup n).getD 0) :: acc else acc) = _
          rw [if_pos rfl, hc, Option.getD_some]
        rw [e2]
        exact ih ((n, c) :: acc) fun y hy' => hy y (List.mem_cons_of_mem _ hy')
      · have hb : (k == NameKind.free) = false := by simpa using hk
        show ((if (k == NameKind.free) = true then (do let a ← cellOf env n; pure (ForInStep.yield ((n, a) :: acc))) else pure (ForInStep.yield acc)) >>= _) = _
        rw [if_neg (by rw [hb]; exact Bool.false_ne_true)]
        have e2 : clos env.cells ((n, k) :: r) acc = clos env.cells r acc := by
          show clos env.cells r (if k = NameKind.free then (n, (env.cells.lookup n).getD 0) :: acc else acc) = _
          rw [if_neg hk]
        rw [e2]
        exact ih acc fun y hy' => hy y (List.mem_cons_of_mem _ hy')
  simp only [closureFor]
  have := go scope.names [] h
  rw [this]
  rfl
theorem relabel_free {env : Env} : ∀ {names : List (Str × NameKind)} {x : Str} {k' : NameKind}, (∀ y ∈ names, y.2 ≠ .cell) → (k' = .cell ∨ k' = .free) →
    (names.map fun (n, k) => if (k == NameKind.free && env.scope.kind == .function && env.kindOf n == some .cell) then (n, NameKind.cell) else (n, k)).lookup x = some k' → (x, NameKind.free) ∈ names
  | [], _, _, _, _, h => by simp at h
  | (n, k) :: r, x, k', hc, hk, h => by
    have h : List.lookup x ((if (k == NameKind.free && env.scope.kind == .function && env.kindOf n == some .cell) = true then (n, NameKind.cell) else (n, k)) :: _) = _ := h
    have ih := @relabel_free env r x k' (fun y hy => hc y (List.mem_cons_of_mem _ hy)) hk
    have nc : k ≠ .cell := hc (n, k) List.mem_cons_self
    by_cases hb : (k == NameKind.free && env.scope.kind == .function && env.kindOf n == some .cell) = true
    · rw [if_pos hb, List.lookup_cons] at h
      have kf : k = .free := by
        simp only [Bool.and_eq_true] at hb
        exact eq_of_beq hb.1.1
      cases hx : x == n with
      | true => rw [eq_of_beq hx, kf]; exact List.mem_cons_self
      | false => rw [hx] at h; exact List.mem_cons_of_mem _ (ih h)
    · rw [if_neg hb, List.lookup_cons] at h
      cases hx : x == n with
      | true =>
        rw [hx] at h
        have e : k = k' := Option.some.inj h
        rcases hk with q | q
        · exact absurd (e.trans q) nc
        · rw [eq_of_beq hx, e, q]; exact List.mem_cons_self
      | false => rw [hx] at h; exact List.mem_cons_of_mem _ (ih h)
/-- the context of a comprehension's block -/
def Cx.block (X : Cx) (N' : List Str) (scope : Scope) (C : Addr) (s₀ : Shared) (H₀ : Hp) (ex : List Addr) : Cx :=
  { X with N := N', s₀ := s₀, H₀ := H₀, env := compEnvC scope (clos X.env.cells scope.names []) C X.env, outer := X.stack, ex := ex, fn := fun _ => false, xe := fun _ _ => False }
/-- what a block's names must be: tn its own, M the names around it (those that it hides stand as others that it has not) -/
structure BlkOk (X : Cx) (tn M : List Str) (scope : Scope) : Prop where
  kind : scope.kind = .function
  nocell : ∀ y ∈ scope.names, y.2 ≠ .cell
  own : ∀ y ∈ scope.names, y.2 = .local → scope.names.lookup y.1 = some .local
  free : ∀ y ∈ scope.names, y.2 = .free → X.env.kindOf y.1 = some .cell ∨ X.env.kindOf y.1 = some .free
  len : M.length = X.N.length
  same : ∀ (i : Nat) (x : Str), M[i]? = some x → (X.N[i]? = some x ∧ scope.names.lookup x ≠ some .local) ∨ scope.names.lookup x = none
def blkOk (kindOf : Str → Option NameKind) (N M : List Str) (scope : Scope) : Bool :=
  scope.names.all (fun y => decide (y.2 ≠ .cell) && (decide (y.2 ≠ .local) || decide (scope.names.lookup y.1 = some .local)) && (decide (y.2 ≠ .free) || decide (kindOf y.1 = some .cell) || decide (kindOf y.1 = some .free)))
  && decide (M.length = N.length) && (M.zip N).all (fun p => (decide (p.1 = p.2) && decide (scope.names.lookup p.1 ≠ some .local)) || decide (scope.names.lookup p.1 = none))
theorem BlkOk.of {X : Cx} {tn M : List Str} {scope : Scope} (hk : scope.kind = .function) (h : blkOk X.env.kindOf X.N M scope = true) : BlkOk X tn M scope := by
  unfold blkOk at h
  rw [Bool.and_eq_true, Bool.and_eq_true] at h
  obtain ⟨⟨h1, h2⟩, h3⟩ := h
  have h1 := List.all_eq_true.mp h1
  have h3 := List.all_eq_true.mp h3
  have h2 := of_decide_eq_true h2
  refine ⟨hk, fun y hy => ?_, fun y hy hl => ?_, fun y hy hf => ?_, h2, fun i x e => ?_⟩
  · have q := h1 y hy
    simp only [Bool.and_eq_true] at q
    exact of_decide_eq_true q.1.1
  · have q := h1 y hy
    simp only [Bool.and_eq_true, Bool.or_eq_true] at q
    rcases q.1.2 with z | z
    · exact absurd hl (of_decide_eq_true z)
    · exact of_decide_eq_true z
  · have q := h1 y hy
    simp only [Bool.and_eq_true, Bool.or_eq_true] at q
    rcases q.2 with (z | z) | z
    · exact absurd hf (of_decide_eq_true z)
    · exact .inl (of_decide_eq_true z)
    · exact .inr (of_decide_eq_true z)
  · have hi : i < M.length := (List.getElem?_eq_some_iff.mp e).1
    have hi' : i < X.N.length := by omega
    have hz : (M.zip X.N)[i]? = some (x, X.N[i]) := by
      rw [List.getElem?_zip_eq_some]
      exact ⟨e, by simp [hi']⟩
    have q := h3 _ (List.mem_of_getElem? hz)
    simp only [Bool.or_eq_true, Bool.and_eq_true] at q
    rcases q with ⟨a, b⟩ | a
    · have a : x = X.N[i] := of_decide_eq_true a
      exact .inl ⟨by rw [List.getElem?_eq_getElem hi', ← a], of_decide_eq_true b⟩
    · exact .inr (of_decide_eq_true a)
section
variable {X : Cx} {pins : List (Addr × Obj)} {σ : St} {H : Hp} {s : Shared} {tn M : List Str} {scope : Scope}
theorem Inv.freeCells (I : Inv X pins σ H s) (B : BlkOk X tn M scope) : ∀ y ∈ scope.names, y.2 = .free → ∃ c, X.env.cells.lookup y.1 = some c := fun y hy hf => I.ok.has y.1 (B.free y hy hf)
/-- the block's begin -/
theorem block_start {fp : List Addr} {h₁ : Heap} {C D : Addr} {tk : Nat} {oD : Obj} (I : Inv X pins σ H s) (B : BlkOk X tn M scope) (hf : ∀ b ∈ fp, FpOk X pins H b) (hfl : ∀ b ∈ fp, b < s.heap.objs.size)
    (old : ∀ b o, s.heap.get? b = some o → h₁.get? b = some o) (hC : s.heap.objs.size ≤ C) (hD : s.heap.objs.size ≤ D) (hDC : D ≠ C) (ns : ∃ m, h₁.Ns C m) (eD : h₁.get? D = some oD) (nD : ∀ v, oD.data ≠ .cell v) :
    Inv (X.block (tn ++ M) scope C s H fp) (pins ++ [(D, oD)]) (List.replicate tn.length none ++ σ) H { s with heap := h₁, toks := tk } := by
  have fr := I.freeCells B
  have sub : ∀ x c, (clos X.env.cells scope.names []).lookup x = some c → X.env.cells.lookup x = some c := clos_sub fr (fun x c e => by simp at e)
  have cellLt : ∀ x c, X.env.cells.lookup x = some c → c < s.heap.objs.size := fun x c e => let ⟨v, q⟩ := I.cell x c e; q.lt
  refine ⟨⟨I.ok.mod, B.kind, I.ok.glob, I.ok.blt, hC, fun x y c h1 h2 => I.ok.inj x y c (sub x c h1) (sub y c h2), fun x hx => ?_, fun x c h => (by cases h), I.ok.hd, I.ok.frames, .inl rfl, fun b hb => ⟨?_, fun x c e => (hf b hb).2.2.2.2.1 x c (sub x c e)⟩,
      I.bs, Nat.le_trans I.ok.bsz I.sz, fun b o e hb => ?_, fun b hb hz => ?_, I.stack, I.stkFree⟩,
    rfl, I.bare, Un.kept old, ?_, fun x c e => ?_, I.hok.fresh hC, fun x c e => I.freeC x c (sub x c e), fun p hp => ?_, I.hok.kept old, ?_⟩
  · -- has
    have hx : (relabel scope X.env).names.lookup x = some .cell ∨ (relabel scope X.env).names.lookup x = some .free := hx
    have hm : (x, NameKind.free) ∈ scope.names := by
      rcases hx with q | q
      · exact relabel_free B.nocell (.inl rfl) q
      · exact relabel_free B.nocell (.inr rfl) q
    exact clos_has (.inr hm)
  · exact Nat.ne_of_lt (Nat.lt_of_lt_of_le (hfl b hb) hC)
  · -- noex
    rcases (hf b hb).2.2.2.1 with z | z
    · exact I.ok.noex b o e z
    · exact absurd (Nat.lt_of_lt_of_le (Heap.lt_size e) (Nat.le_trans I.ok.bsz z)) (Nat.lt_irrefl _)
  · -- exfs
    rcases List.mem_cons.mp (I.stkSub b hz) with q | q
    · exact (hf b hb).2.1 q
    · exact (hf b hb).2.2.1 q
  · -- loc
    obtain ⟨m', hn⟩ := ns
    refine ⟨m', hn, fun i x v e1 e2 e3 => ?_⟩
    have e1 : (tn ++ M)[i]? = some x := e1
    by_cases hi : i < tn.length
    · rw [List.getElem?_append_left (by simpa using hi), List.getElem?_replicate, if_pos hi] at e2
      cases e2
    · rw [List.getElem?_append_right (by simpa using Nat.not_lt.mp hi), List.length_replicate] at e2
      rw [List.getElem?_append_right (Nat.not_lt.mp hi)] at e1
      have e3 : (relabel scope X.env).names.lookup x = some .local ∨ (relabel scope X.env).names.lookup x = some .cell ∨ (relabel scope X.env).names.lookup x = some .free := e3
      have hvis : ((relabel scope X.env).names.lookup x = some .cell ∨ (relabel scope X.env).names.lookup x = some .free) ∧ (x, NameKind.free) ∈ scope.names ∧ X.N[i - tn.length]? = some x := by
        have lk : ∀ k, (relabel scope X.env).names.lookup x = some k → scope.names.lookup x ≠ none := by
          intro k q z
          have : ∀ (names : List (Str × NameKind)), names.lookup x = none → (names.map fun (n, k) => if (k == NameKind.free && X.env.scope.kind == .function && X.env.kindOf n == some .cell) then (n, NameKind.cell) else (n, k)).lookup x = none := by
            intro names
            induction names with
            | nil => intro _; rfl
            | cons y r ih =>
              obtain ⟨n, k⟩ := y
              intro hz
              rw [List.lookup_cons] at hz
              show List.lookup x ((if (k == NameKind.free && X.env.scope.kind == .function && X.env.kindOf n == some .cell) = true then (n, NameKind.cell) else (n, k)) :: _) = none
              cases hx : x == n with
              | true => rw [hx] at hz; cases hz
              | false =>
                rw [hx] at hz
                split <;> (rw [List.lookup_cons, hx]; exact ih hz)
          have q' : (relabel scope X.env).names.lookup x = none := this scope.names z
          rw [q] at q'
          cases q'
        rcases B.same _ x e1 with ⟨a, b⟩ | b
        · rcases e3 with q | q | q
          · exfalso
            -- local in the relabelled table is local in the block's own
            have : ∀ (names : List (Str × NameKind)), (names.map fun (n, k) => if (k == NameKind.free && X.env.scope.kind == .function && X.env.kindOf n == some .cell) then (n, NameKind.cell) else (n, k)).lookup x = some .local → names.lookup x = some .local := by
              intro names
              induction names with
              | nil => intro hz; simp at hz
              | cons y r ih =>
                obtain ⟨n, k⟩ := y
                intro hz
                have hz : List.lookup x ((if (k == NameKind.free && X.env.scope.kind == .function && X.env.kindOf n == some .cell) = true then (n, NameKind.cell) else (n, k)) :: _) = some .local := hz
                rw [List.lookup_cons]
                cases hx : x == n with
                | true =>
                  split at hz
                  · rw [List.lookup_cons, hx] at hz; cases hz
                  · rw [List.lookup_cons, hx] at hz; exact hz
                | false =>
                  split at hz <;> (rw [List.lookup_cons, hx] at hz; exact ih hz)
            exact b (this _ q)
          · exact ⟨.inl q, relabel_free B.nocell (.inl rfl) q, a⟩
          · exact ⟨.inr q, relabel_free B.nocell (.inr rfl) q, a⟩
        · exfalso
          rcases e3 with q | q | q <;> exact lk _ q b
      obtain ⟨hk, hm, hN⟩ := hvis
      obtain ⟨m, hn0, hl⟩ := I.loc
      have ko := B.free (x, .free) hm rfl
      obtain ⟨u, r, l⟩ := hl _ x v hN e2 (.inr ko)
      refine ⟨u, r, .inr ⟨hk, ?_⟩⟩
      rcases l with ⟨z, _⟩ | ⟨_, c, ec, hc⟩
      · have z : X.env.kindOf x = some .local := z
        rcases ko with q | q
        · have q : X.env.kindOf x = some .cell := q
          rw [z] at q; cases q
        · have q : X.env.kindOf x = some .free := q
          rw [z] at q; cases q
      · obtain ⟨c', ec'⟩ := clos_has (cells := X.env.cells) (names := scope.names) (acc := []) (.inr hm)
        have : X.env.cells.lookup x = some c' := sub x c' ec'
        rw [ec] at this
        cases this
        obtain ⟨o, ho, hd⟩ := hc
        exact ⟨c, ec', o, old _ _ ho, hd⟩
  · obtain ⟨v, o, ho, hd⟩ := I.cell x c (sub x c e)
    exact ⟨v, o, old _ _ ho, hd⟩
  · rcases List.mem_append.mp hp with q | q
    · obtain ⟨a, b, c, d, e⟩ := I.pin p (List.mem_append_left _ q)
      refine ⟨old _ _ a, b, Nat.ne_of_lt (Nat.lt_of_lt_of_le (Heap.lt_size a) hC), fun z => ?_, e⟩
      rcases List.mem_cons.mp (I.stkSub _ z) with q | q
      · exact c q
      · exact d q
    · rcases List.mem_append.mp q with q | q
      · obtain ⟨a, b, c, d, e⟩ := I.pin p (List.mem_append_right _ q)
        refine ⟨old _ _ a, b, Nat.ne_of_lt (Nat.lt_of_lt_of_le (Heap.lt_size a) hC), fun z => ?_, e⟩
        rcases List.mem_cons.mp (I.stkSub _ z) with q | q
        · exact c q
        · exact d q
      · obtain rfl : p = (D, oD) := List.mem_singleton.mp q
        refine ⟨eD, I.hok.fresh hD, hDC, fun z => ?_, nD⟩
        rcases List.mem_cons.mp (I.stkSub _ z) with q | q
        · exact Nat.ne_of_gt (Nat.lt_of_lt_of_le I.lt hD) q
        · exact I.nofs hD q
  · show (List.replicate tn.length none ++ σ).length = (tn ++ M).length
    rw [List.length_append, List.length_append, List.length_replicate, I.len, B.len]
/-- the block's end: what it filled is tracked from here on -/
theorem block_end {N' : List Str} {fp : List Addr} {C D : Addr} {σ' : St} {H' : Hp} {s' : Shared} {us : List Value} {n : Nat} {vs : List V} {ps : List (Addr × Obj)} (I : Inv X pins σ H s)
    (J : Inv (X.block N' scope C s H fp) ps σ' H' s') (hf : ∀ b ∈ fp, FpOk X pins H b) (hD : s.heap.objs.size ≤ D) (eD : s'.heap.get? D = some { cls := .type "list", data := .seq us.toArray n }) (nD : H' D = none)
    (r : Vals vs us) (hz : vs.length ≤ sizeLine) : Inv X pins σ (upd H' D (.lst vs)) s' := by
  have neD : ∀ b o, s.heap.get? b = some o → b ≠ D := fun b o e => Nat.ne_of_lt (Nat.lt_of_lt_of_le (Heap.lt_size e) hD)
  have neT : ∀ b o, H' b = some o → b ≠ D := fun b o e z => by rw [z, nD] at e; cases e
  have u : Un (frs X.stack) fp H H' s.heap s'.heap := J.base
  refine I.call' (ch := fp) J.os ⟨u.keep, u.slot, fun b o e n hx => ?_, u.there, fun b xs e => ?_, fun b o v e => ?_, fun b ps e => ?_⟩ (fun a o e => ?_) J.bare (fun b hb => ⟨(hf b hb).2.2.2.1, (hf b hb).2.1, (hf b hb).2.2.2.2.1, (hf b hb).2.2.2.2.2⟩)
  · rw [upd_ne (neD b o e)]
    exact u.free b o e n hx
  · have q := u.tups b xs e
    rw [upd_ne (neT b _ q)]
    exact q
  · have q := u.frzs b o v e
    rw [upd_ne (neT b _ q)]
    exact q
  · obtain ⟨more, q⟩ := u.tbls b ps e
    exact ⟨more, by rw [upd_ne (neT b _ q)]; exact q⟩
  · by_cases ha : a = D
    · subst ha
      rw [upd_same] at e
      cases e
      exact ⟨hz, us, n, r, eD⟩
    · rw [upd_ne ha] at e
      exact (J.hok a o e).stay (fun b v _ q => q) (fun b q => by rw [upd_ne (neT b _ q)]; exact q) fun b xs q => by rw [upd_ne (neT b _ q)]; exact q
end
/-- the tests of a comprehension -/
def PTs (Y : Cx) (ifs : List Expr) (t : TT) : Prop :=
  ∀ (pins : List (Addr × Obj)) (s : Shared) (σ : St) (H : Hp) (Q : Bool → Hp → Prop), Inv Y pins σ H s → t σ H Q →
    wpAny (model Y.prog Y.w) Y.A (forIn ifs true fun c r => if r = true then do let ok ← isTrue c Y.env (eval c Y.env); pure (ForInStep.yield ok) else pure (ForInStep.yield r)) (TP Y pins σ Q) Y.xe s
def tAll : TT := fun _ H Q => Q true H
theorem pts_nil {Y : Cx} : PTs Y [] tAll := fun _ _ _ H _ I h => wpAny_tests_nil ⟨H, I, h⟩
/-- a comprehension: W the invariant by the turn, a measure, what was gathered -/
def tComp (wi : TI) (m : Nat) (g : TG) (tc : TT) (te : TE) : TE := fun σ H Q => wi σ H fun J H1 =>
  ∃ W : Nat → Nat → List V → St → Hp → Prop, (∃ k, W 0 k [] (List.replicate m none ++ σ) H1) ∧ ∀ i k vs σ H, W i k vs σ H →
    (J.stop i H ∧ ∀ p, H p = none → Q (.ref p) (upd H p (.lst vs))) ∨
    (J.go i H ∧ vs.length < sizeLine ∧ ∃ N : List V → St → Hp → Prop, (∀ vs' σ' H', N vs' σ' H' → ∃ k', k' < k ∧ W (i + 1) k' vs' σ' H') ∧
      ∀ x H', J.yld i H x H' → g x σ H' fun σ2 H2 => tc σ2 H2 fun b H3 => if b = true then te σ2 H3 fun y H4 => N (vs ++ [y]) σ2 H4 else N vs σ2 H3)
section
variable {prog : Program} {w : World} {A : Around} {R : Result → Shared → Prop} {s : Shared}
theorem compLoop_go {elt target iter : Expr} {ifs : List Expr} {scope : Scope} {pos : Pos} {it acc : Value} {env : Env} (I : Nat → Shared → Prop)
    (turn : ∀ n s, I n s → wpAny (model prog w) A (pyNext it) (fun r s₁ => match r with
      | none => R (.ok .next) s₁
      | some v => wpAny (model prog w) A (letOwnedTupleGo target it v) (fun _ s₀ => wpAny (model prog w) A (assign target env v) (fun _ s₂ =>
          wpAny (model prog w) A (forIn ifs true fun c r => if r = true then do let ok ← isTrue c env (eval c env); pure (ForInStep.yield ok) else pure (ForInStep.yield r)) (fun ok s₃ =>
            if ok = true then wpAny (model prog w) A (eval elt env) (fun x s₄ =>
              wpAny (model prog w) A (call (.builtin "list.append") [acc, x]) (fun _ s₅ => ∃ m, m < n ∧ I m s₅) (fun _ _ => False) s₄) (fun _ _ => False) s₃
            else ∃ m, m < n ∧ I m s₃) (fun _ _ => False) s₂) (fun _ _ => False) s₀) (fun _ _ => False) s₁) (fun _ _ => False) s)
    (n : Nat) (h : I n s) : codeAny (model prog w) A (.compLoop (.ListComp elt [⟨target, iter, ifs, 0⟩] scope pos) 0 it acc env) R s := by
  refine codeAny_loop rfl I (fun n s hI => ?_) n h
  show wpAny _ A ((compTurn (.ListComp elt [⟨target, iter, ifs, 0⟩] scope pos) 0 it acc env).onRaise (fun x => do noteFrame x env; theTreesLotGoes x)) _ _ s
  refine wpAny_noted ?_
  rw [compTurn_list]
  refine wpAny_bind (wpAny_standAt (wpAny_bind (wpAny_mono (turn n s hI) (fun r s₁ h₁ => ?_) fun _ _ h' => h'.elim)))
  cases r with
  | none => exact wpAny_pure h₁
  | some v =>
    refine wpAny_bind (wpAny_mono h₁ (fun _ s₀ h₀ => ?_) fun _ _ h' => h'.elim)
    refine wpAny_bind (wpAny_mono h₀ (fun _ s₂ h₂ => wpAny_bind (wpAny_mono h₂ (fun ok s₃ h₃ => ?_) fun _ _ h' => h'.elim)) fun _ _ h' => h'.elim)
    cases ok with
    | false => exact wpAny_pure ⟨rfl, h₃⟩
    | true =>
      exact wpAny_bind (wpAny_bind (wpAny_mono h₃ (fun x s₄ h₄ => wpAny_bind (wpAny_mono h₄ (fun _ s₅ h₅ => wpAny_pure (wpAny_pure ⟨rfl, h₅⟩)) fun _ _ h' => h'.elim)) fun _ _ h' => h'.elim))
end
section
variable {X : Cx} {tn M : List Str} {scope : Scope} {tg iter elt : Expr} {ifs : List Expr} {pos : Pos} {wi : TI} {g : TG} {tc : TT} {te : TE}
abbrev lobj (us : List Value) : Obj := { cls := .type "list", data := .seq us.toArray us.length }
/-- a pinned list that the loop fills -/
theorem Inv.filled {Y : Cx} {pins : List (Addr × Obj)} {σ : St} {H : Hp} {s : Shared} {D : Addr} {us : List Value} {o' : Obj} {h' : Heap} {pl : List (Addr × Obj)} (I : Inv Y (pins ++ [(D, lobj us)] ++ pl) σ H s) (hD : Y.s₀.heap.objs.size ≤ D)
    (hc : ∀ x c, Y.env.cells.lookup x = some c → c ≠ D) (hp : ∀ p ∈ Y.pn ++ pins, p.1 ≠ D) (sb : Heap.SameBut D s.heap h') (e : h'.get? D = some o') (nd : ∀ v, o'.data ≠ .cell v) : Inv Y (pins ++ [(D, o')]) σ H { s with heap := h' } := by
  have pD := I.pin (D, lobj us) (by simp)
  have I1 : Inv Y pins σ H s := I.pins_of fun p hp => I.pin p (by simp [hp])
  have I2 : Inv Y pins σ H { s with heap := h' } := I1.turned (it := D) (t' := s.toks) (fun b o hb q => (sb.2 b hb).trans q) pD.2.1 pD.2.2.1 (.inr hD) hc hp
  refine I2.pins_of fun p hp => ?_
  rcases List.mem_append.mp hp with q | q
  · exact I2.pin p (List.mem_append_right _ q)
  · obtain rfl : p = (D, o') := List.mem_singleton.mp q
    exact ⟨e, pD.2.1, pD.2.2.1, pD.2.2.2.1, nd⟩
/-- what a use of the comprehension's value asks: the list is there, C its frame -/
def CompUse (X : Cx) (pins : List (Addr × Obj)) (σ : St) (Q : VK) (D C : Addr) (s' : Shared) : Prop :=
  ∃ H, Inv X pins σ H s' ∧ Q (.ref D) H ∧ (∃ m, s'.heap.Ns C m) ∧ FpOk X pins H C
theorem comp_run {pins : List (Addr × Obj)} {s : Shared} {σ : St} {H : Hp} {Q : VK} {RR : Value → Addr → Result → Shared → Prop} (hc : X.calm = true) (B : BlkOk X tn M scope) (hi : PI X tg iter wi)
    (hg : ∀ C s₀ H₀ ex, PG (X.block (tn ++ M) scope C s₀ H₀ ex) tg g) (ht : ∀ C s₀ H₀ ex, PTs (X.block (tn ++ M) scope C s₀ H₀ ex) ifs tc) (he : ∀ C s₀ H₀ ex, PE (X.block (tn ++ M) scope C s₀ H₀ ex) elt te)
    (I : Inv X pins σ H s) (h : tComp wi tn.length g tc te σ H Q) (hRR : ∀ D C s', CompUse X pins σ Q D C s' → RR (.ref D) C (.ok .next) s') :
    wpAny (model X.prog X.w) X.A (eval iter X.env) (fun x s₁ => wpAny (model X.prog X.w) X.A (pyIter x) (fun it s₂ => wpAny (model X.prog X.w) X.A (newList []) (fun acc s₃ =>
      wpAny (model X.prog X.w) X.A (newFunctionEnv scope X.env.globals (clos X.env.cells scope.names []) [] X.env.qual none .none (some X.env)) (fun cenv s₄ =>
        codeAny (model X.prog X.w) X.A (.compStart (.ListComp elt [⟨tg, iter, ifs, 0⟩] scope pos) 0 it acc { cenv with scope := relabel scope X.env }) (RR acc cenv.locals) s₄) X.xe s₃) X.xe s₂) X.xe s₁) X.xe s := by
  refine thn (hi pins s σ H _ I h) fun v s1 h1 => thn h1 fun itv s2 h2 => ?_
  obtain ⟨it, fp, tn', J, H2, e, I2, T, st2, f2, W, ⟨m0, w0⟩, turn⟩ := h2
  subst e
  refine wpAny_newObj_type (wpAny_newFunctionEnv B.nocell (by intro y hy; simp at hy) (fun h₁ hns₁ hsb₁ => ?_) B.kind)
  dsimp only at hns₁ hsb₁ ⊢
  generalize hH2 : s2.heap.push { cls := .type "list", dict := none, data := .seq ([] : List Value).toArray } = HH at hns₁ hsb₁ ⊢
  have hC : HH.objs.size = s2.heap.objs.size + 1 := by rw [← hH2, Heap.size_push]
  have hDC : s2.heap.objs.size ≠ HH.objs.size := by rw [hC]; exact Nat.ne_of_lt (Nat.lt_succ_self _)
  have below : ∀ b, b < s2.heap.objs.size → b ≠ HH.objs.size ∧ b ≠ s2.heap.objs.size := fun b hb => ⟨by rw [hC]; exact Nat.ne_of_lt (Nat.lt_succ_of_lt hb), Nat.ne_of_lt hb⟩
  have old : ∀ b o, s2.heap.get? b = some o → h₁.get? b = some o := fun b o e => hsb₁.extBut b o (below b (Heap.lt_size e)).1 (Heap.get?_push_of_some _ (hH2 ▸ Heap.get?_push_of_some _ e))
  have hacc : h₁.get? s2.heap.objs.size = some (lobj []) := hsb₁.extBut _ _ hDC (Heap.get?_push_of_some _ (hH2 ▸ Heap.get?_push_size _ rfl))
  have hfl : ∀ b ∈ fp, b < s2.heap.objs.size := fun b hb => let ⟨o, q, _⟩ := T.obj _ _ st2 b hb; Heap.lt_size q
  have hCle : s2.heap.objs.size ≤ HH.objs.size := by rw [hC]; exact Nat.le_succ _
  have cne : ∀ x c, (clos X.env.cells scope.names []).lookup x = some c → c ≠ s2.heap.objs.size := fun x c q => by
    have q' := clos_sub (I2.freeCells B) (fun x c z => by simp at z) x c q
    obtain ⟨v, z⟩ := I2.cell x c q'
    exact Nat.ne_of_lt z.lt
  have pne : ∀ p ∈ X.pn ++ pins, p.1 ≠ s2.heap.objs.size := fun p hp => Nat.ne_of_lt (Heap.lt_size (I2.pin p hp).1)
  have J0 := block_start (fp := fp) (h₁ := h₁) (C := HH.objs.size) (D := s2.heap.objs.size) (tk := s2.toks + ([] : List (Str × Value)).length) (oD := lobj []) I2 B f2 hfl old hCle (Nat.le_refl _) hDC ⟨_, hns₁⟩ hacc (fun v z => by cases z)
  -- what stays true of the iterator's objects through the loop
  have stat : ∀ {H' : Hp} {us : List Value}, (∀ b ∈ fp, H' b = none) → ∀ b ∈ fp, FpOk (X.block (tn ++ M) scope HH.objs.size s2 H2 fp) (pins ++ [(s2.heap.objs.size, lobj us)]) H' b := fun {H' us} hn b hb =>
    ⟨hn b hb, (J0.ok.exf b hb).1, J0.ok.exfs b hb, .inl hb, (J0.ok.exf b hb).2, fun p hp => by
      rcases List.mem_append.mp hp with q | q
      · exact (f2 b hb).2.2.2.2.2 p (List.mem_append_left _ q)
      · rcases List.mem_append.mp q with q | q
        · exact (f2 b hb).2.2.2.2.2 p (List.mem_append_right _ q)
        · obtain rfl := List.mem_singleton.mp q
          exact Ne.symm (below b (hfl b hb)).2⟩
  have loop : ∀ s₃ : Shared, s₃ = { s2 with heap := h₁, toks := s2.toks + ([] : List (Str × Value)).length } →
      codeAny (model X.prog X.w) X.A (.compLoop (.ListComp elt [⟨tg, iter, ifs, 0⟩] scope pos) 0 (.ref it) (.ref s2.heap.objs.size) (compEnvC scope (clos X.env.cells scope.names []) HH.objs.size X.env))
        (RR (.ref s2.heap.objs.size) HH.objs.size) s₃ := by
    rintro s₃ rfl
    refine compLoop_go (fun n s' => ∃ i σ' H' us vs, Inv (X.block (tn ++ M) scope HH.objs.size s2 H2 fp) (pins ++ [(s2.heap.objs.size, lobj us)]) σ' H' s' ∧ tn' i s'.heap ∧ (∀ b ∈ fp, H' b = none) ∧ Vals vs us ∧ vs.length ≤ sizeLine ∧ W i n vs σ' H') ?_ m0
      ⟨0, _, H2, [], [], J0, T.keep _ _ _ st2 (fun b _ o e => old b o e), fun b hb => (f2 b hb).1, .nil, Nat.zero_le _, w0⟩
    rintro n s3 ⟨i, σ3, H3, us, vs, I3, st3, fr3, rv, hz, w3⟩
    rcases turn i n vs σ3 H3 w3 with ⟨stop, qn⟩ | ⟨go, hlt, N, hN, step⟩
    · refine thn (T.done (X.block (tn ++ M) scope HH.objs.size s2 H2 fp) rfl rfl rfl hc i _ s3 σ3 H3 _ I3 (stat fr3) st3 stop) fun r s4 ⟨hr, I4⟩ => ?_
      subst hr
      have pD := I4.pin (s2.heap.objs.size, lobj us) (by simp)
      have IE := block_end I2 I4 f2 (Nat.le_refl _) pD.1 pD.2.1 rv hz
      refine hRR _ _ s4 ⟨_, IE, qn _ pD.2.1, let ⟨m, z, _⟩ := I4.loc; ⟨m, z⟩, ?_⟩
      exact I2.fpOk hCle (by rw [upd_ne (Ne.symm hDC)]; exact I4.free)
    · refine thn (T.item (X.block (tn ++ M) scope HH.objs.size s2 H2 fp) rfl rfl rfl hc i _ s3 σ3 H3 (fun _ _ => False) I3 (stat fr3) st3 go) fun r s4 ⟨u, hr, h4⟩ => ?_
      subst hr
      refine thn h4 fun _ s5 ⟨x, H5, I5, r5, y5, st5, fr5⟩ => ?_
      have I5' := I5.pinned (stat fr5) (T.obj _ _ st5)
      refine thn (hg HH.objs.size s2 H2 fp _ s5 σ3 H5 x u _ I5' r5 (step x H5 y5)) fun _ s6 ⟨σ6, H6, I6, q6⟩ => ?_
      refine thn (ht HH.objs.size s2 H2 fp _ s6 σ6 H6 _ I6 q6) fun ok s7 ⟨H7, I7, q7⟩ => ?_
      have keepFp : ∀ {σ' : St} {H' : Hp} {s' : Shared}, Inv (X.block (tn ++ M) scope HH.objs.size s2 H2 fp) (pins ++ [(s2.heap.objs.size, lobj us)] ++ pinsAt fp s5.heap) σ' H' s' → tn' (i + 1) s'.heap ∧ ∀ b ∈ fp, H' b = none := fun {σ' H' s'} J =>
        ⟨T.keep _ _ _ st5 fun b hb o e => (J.pin (b, o) (List.mem_append_right _ (List.mem_append_right _ (mem_pinsAt hb e)))).1, fun b hb => by
          obtain ⟨o, e, d⟩ := T.obj _ _ st5 b hb
          exact (J.pin (b, o) (List.mem_append_right _ (List.mem_append_right _ (mem_pinsAt hb e)))).2.1⟩
      cases ok with
      | false =>
        rw [if_neg Bool.false_ne_true]
        rw [if_neg Bool.false_ne_true] at q7
        obtain ⟨k', hk, w7⟩ := hN _ _ _ q7
        obtain ⟨a1, a2⟩ := keepFp I7
        exact ⟨k', hk, i + 1, σ6, H7, us, vs, I7.unpinned, a1, a2, rv, hz, w7⟩
      | true =>
        rw [if_pos rfl]
        rw [if_pos rfl] at q7
        refine thn (he HH.objs.size s2 H2 fp _ s7 σ6 H7 _ I7 q7) fun y s8 ⟨yv, H8, I8, ry, q8⟩ => ?_
        have pD := I8.pin (s2.heap.objs.size, lobj us) (by simp)
        have hl := rv.length
        refine append_at (hsz := by rw [List.size_toArray]; omega) pD.1 fun h' hs' hD' => ?_
        have eD' : h'.get? s2.heap.objs.size = some (lobj (us ++ [y])) := by
          rw [hD', List.push_toArray]
          show some ({ cls := .type "list", data := .seq (us ++ [y]).toArray (us.length + 1) } : Obj) = some (lobj (us ++ [y]))
          unfold lobj
          rw [List.length_append, List.length_singleton]
        have I9 := I8.filled (Nat.le_refl _) cne pne hs' eD' (fun v z => by cases z)
        obtain ⟨k', hk, w9⟩ := hN _ _ _ q8
        obtain ⟨a1, a2⟩ := keepFp I8
        refine ⟨k', hk, i + 1, σ6, H8, us ++ [y], vs ++ [yv], I9, T.keep _ _ _ a1 (fun b hb o e => (hs'.2 b (below b (hfl b hb)).2).trans e), a2, Vals.append rv (.cons ry .nil), ?_, w9⟩
        rw [List.length_append, List.length_singleton]
        omega
  exact codeAny_compStart_list (loop _ rfl) (T.self _ 0 _ _ _ (T.keep _ _ _ st2 fun b _ o e => old b o e) (loop _ rfl))
/-- [elt for tg in iter if ..] -/
theorem pe_comp (hc : X.calm = true) (B : BlkOk X tn M scope) (hi : PI X tg iter wi)
    (hg : ∀ C s₀ H₀ ex, PG (X.block (tn ++ M) scope C s₀ H₀ ex) tg g) (ht : ∀ C s₀ H₀ ex, PTs (X.block (tn ++ M) scope C s₀ H₀ ex) ifs tc) (he : ∀ C s₀ H₀ ex, PE (X.block (tn ++ M) scope C s₀ H₀ ex) elt te)
    (hs : ∀ x, foldedSetIterable iter X.env x = pure x := by intro _; rfl) :
    PE X (.ListComp elt [⟨tg, iter, ifs, 0⟩] scope pos) (tComp wi tn.length g tc te) := by
  intro pins s σ H Q I h
  rw [eval_ListComp]
  refine wpAny_comprehension_free (use := none) rfl hs (closureFor_clos (I.freeCells B)) B.kind B.own ?_
  refine comp_run (RR := fun acc C => compPost (model X.prog X.w) X.A X.xe none (EP X pins σ Q) acc C) hc B hi hg ht he I h fun D C s' hu => ?_
  obtain ⟨H', I', q, ⟨m, hn⟩, f0, f1, f2, f3, f4, f5⟩ := hu
  refine ⟨m, hn, fun h' hs' => ?_⟩
  exact ⟨.ref D, H', I'.turned (it := C) (t' := s'.toks) (fun b o hb e => (hs'.2 b hb).trans e) f0 f1 f3 f4 f5, rfl, q⟩
/-- name = [elt for tg in iter if ..], the name a plain local -/
theorem ps_setC {i : Nat} {y : Str} {pos' spos : Pos} (hN : X.N.Nodup) (hy : X.N[i]? = some y) (hl : X.env.scope.names.lookup y = some .local) (hc : X.calm = true) (B : BlkOk X tn M scope) (hi : PI X tg iter wi)
    (hg : ∀ C s₀ H₀ ex, PG (X.block (tn ++ M) scope C s₀ H₀ ex) tg g) (ht : ∀ C s₀ H₀ ex, PTs (X.block (tn ++ M) scope C s₀ H₀ ex) ifs tc) (he : ∀ C s₀ H₀ ex, PE (X.block (tn ++ M) scope C s₀ H₀ ex) elt te)
    (hsw : swapsWith (.ListComp elt [⟨tg, iter, ifs, 0⟩] scope pos) (some (.Name y pos')) spos.line X.env = pure true := by rfl) (hs : ∀ x, foldedSetIterable iter X.env x = pure x := by intro _; rfl) :
    PS X (.Assign [.Name y pos'] (.ListComp elt [⟨tg, iter, ifs, 0⟩] scope pos) spos) (tAsg (tComp wi tn.length g tc te) (gName i)) := by
  intro pins s σ H D I h
  rw [exec_Assign_Name_used _ _ _ _ hsw]
  refine wpAny_bind (wpAny_standAt (wpAny_bind ?_))
  show wpAny _ X.A (do let _ ← comprehension (.ListComp elt [⟨tg, iter, ifs, 0⟩] scope pos) scope X.env _ (newList []) false (eval iter X.env) (some (assign (.Name y pos') X.env))) _ _ s
  refine wpAny_bind (wpAny_mono (wpAny_comprehension_free (use := some (assign (.Name y pos') X.env)) (Q := fun _ s' => SP X pins D .next s') rfl hs (closureFor_clos (I.freeCells B)) B.kind B.own ?_) (fun _ s' hq => wpAny_pure (wpAny_pure hq)) fun _ _ e => e)
  refine comp_run (RR := fun acc C => compPost (model X.prog X.w) X.A X.xe (some (assign (.Name y pos') X.env)) (fun _ s' => SP X pins D .next s') acc C) (Q := fun x H1 => gName i x σ H1 D.nx) hc B hi hg ht he I h fun E C s' hu => ?_
  obtain ⟨H', I', q, ⟨m, hn⟩, f0, f1, f2, f3, f4, f5⟩ := hu
  show wpAny _ X.A (assign (.Name y pos') X.env (.ref E)) _ X.xe s'
  refine wpAny_assign_Name (store_ok2 I' hN hy (.inl hl) (v := .ref E) rfl (fun s2 I2 hs2 => ?_) (.inr hl))
  obtain ⟨a, sb, ha⟩ := hs2
  have hCa : C ≠ a := by
    rcases ha with z | z
    · rw [z]; exact f1
    · exact fun e => f4 y a z e.symm
  refine ⟨m, hn.sameBut sb hCa, fun h' hs' => ?_⟩
  exact ⟨_, H', I2.turned (it := C) (t' := s2.toks) (fun b o hb e => (hs'.2 b hb).trans e) f0 f1 f3 f4 f5, q⟩
end
/-! ### the forms one uses -/
section
variable {g : TG} {tc : TT} {te : TE} {Q : VK} {σ' : St} {H : Hp}
theorem comp_list {K : PySem.W.Frag} {a : Addr} {xs : List V} (Pv : Nat → List V → St → Hp → Prop) (h0 : Pv 0 [] σ' H) (hl : ∀ i vs σ H, i ≤ xs.length → Pv i vs σ H → SqL K H a xs) (hz : xs.length ≤ sizeLine) (hn : ∀ i vs σ H, Pv i vs σ H → vs.length ≤ i)
    (hs : ∀ i x vs σ H, xs[i]? = some x → Pv i vs σ H → g x σ H fun σ2 H2 => tc σ2 H2 fun b H3 => if b = true then te σ2 H3 fun y H4 => Pv (i + 1) (vs ++ [y]) σ2 H4 else Pv (i + 1) vs σ2 H3)
    (hd : ∀ vs σ H, Pv xs.length vs σ H → ∀ p, H p = none → Q (.ref p) (upd H p (.lst vs))) :
    ∃ W : Nat → Nat → List V → St → Hp → Prop, (∃ k, W 0 k [] σ' H) ∧ ∀ i k vs σ H, W i k vs σ H →
      ((Itl K a).stop i H ∧ ∀ p, H p = none → Q (.ref p) (upd H p (.lst vs))) ∨
      ((Itl K a).go i H ∧ vs.length < sizeLine ∧ ∃ N : List V → St → Hp → Prop, (∀ vs' σ' H', N vs' σ' H' → ∃ k', k' < k ∧ W (i + 1) k' vs' σ' H') ∧
        ∀ x H', (Itl K a).yld i H x H' → g x σ H' fun σ2 H2 => tc σ2 H2 fun b H3 => if b = true then te σ2 H3 fun y H4 => N (vs ++ [y]) σ2 H4 else N vs σ2 H3) := by
  refine ⟨fun i m vs σ H => m = xs.length - i ∧ i ≤ xs.length ∧ Pv i vs σ H, ⟨xs.length, by simp, Nat.zero_le _, h0⟩, ?_⟩
  rintro i m vs σ H ⟨rfl, hi, p⟩
  have q := hl i vs σ H hi p
  by_cases hlt : i < xs.length
  · refine .inr ⟨⟨xs, xs[i], q, by simp [hlt]⟩, Nat.lt_of_le_of_lt (hn _ _ _ _ p) (Nat.lt_of_lt_of_le hlt hz), Pv (i + 1), fun vs' σ' H' p' => ⟨xs.length - (i + 1), by omega, rfl, hlt, p'⟩, fun x H' y => ?_⟩
    obtain ⟨e, y⟩ := y
    subst e
    exact hs i x vs σ _ (y xs q) p
  · have e : i = xs.length := by omega
    subst e
    exact .inl ⟨⟨xs, q, Nat.le_refl _⟩, hd vs σ H p⟩
theorem comp_tup {K : PySem.W.Frag} {a : Addr} {xs : List V} (Pv : Nat → List V → St → Hp → Prop) (h0 : Pv 0 [] σ' H) (hl : ∀ i vs σ H, i ≤ xs.length → Pv i vs σ H → SqT K H a xs) (hz : xs.length ≤ sizeLine) (hn : ∀ i vs σ H, Pv i vs σ H → vs.length ≤ i)
    (hs : ∀ i x vs σ H, xs[i]? = some x → Pv i vs σ H → g x σ H fun σ2 H2 => tc σ2 H2 fun b H3 => if b = true then te σ2 H3 fun y H4 => Pv (i + 1) (vs ++ [y]) σ2 H4 else Pv (i + 1) vs σ2 H3)
    (hd : ∀ vs σ H, Pv xs.length vs σ H → ∀ p, H p = none → Q (.ref p) (upd H p (.lst vs))) :
    ∃ W : Nat → Nat → List V → St → Hp → Prop, (∃ k, W 0 k [] σ' H) ∧ ∀ i k vs σ H, W i k vs σ H →
      ((Itt K a).stop i H ∧ ∀ p, H p = none → Q (.ref p) (upd H p (.lst vs))) ∨
      ((Itt K a).go i H ∧ vs.length < sizeLine ∧ ∃ N : List V → St → Hp → Prop, (∀ vs' σ' H', N vs' σ' H' → ∃ k', k' < k ∧ W (i + 1) k' vs' σ' H') ∧
        ∀ x H', (Itt K a).yld i H x H' → g x σ H' fun σ2 H2 => tc σ2 H2 fun b H3 => if b = true then te σ2 H3 fun y H4 => N (vs ++ [y]) σ2 H4 else N vs σ2 H3) := by
  refine ⟨fun i m vs σ H => m = xs.length - i ∧ i ≤ xs.length ∧ Pv i vs σ H, ⟨xs.length, by simp, Nat.zero_le _, h0⟩, ?_⟩
  rintro i m vs σ H ⟨rfl, hi, p⟩
  have q := hl i vs σ H hi p
  by_cases hlt : i < xs.length
  · refine .inr ⟨⟨xs, xs[i], q, by simp [hlt]⟩, Nat.lt_of_le_of_lt (hn _ _ _ _ p) (Nat.lt_of_lt_of_le hlt hz), Pv (i + 1), fun vs' σ' H' p' => ⟨xs.length - (i + 1), by omega, rfl, hlt, p'⟩, fun x H' y => ?_⟩
    obtain ⟨e, y⟩ := y
    subst e
    exact hs i x vs σ _ (y xs q) p
  · have e : i = xs.length := by omega
    subst e
    exact .inl ⟨⟨xs, q, Nat.le_refl _⟩, hd vs σ H p⟩
theorem comp_range {lo : Int} {n : Nat} (Pv : Nat → List V → St → Hp → Prop) (h0 : Pv 0 [] σ' H) (hz : n ≤ sizeLine) (hn : ∀ i vs σ H, Pv i vs σ H → vs.length ≤ i)
    (hs : ∀ i vs σ H, i < n → Pv i vs σ H → g (.int (lo + i)) σ H fun σ2 H2 => tc σ2 H2 fun b H3 => if b = true then te σ2 H3 fun y H4 => Pv (i + 1) (vs ++ [y]) σ2 H4 else Pv (i + 1) vs σ2 H3)
    (hd : ∀ vs σ H, Pv n vs σ H → ∀ p, H p = none → Q (.ref p) (upd H p (.lst vs))) :
    ∃ W : Nat → Nat → List V → St → Hp → Prop, (∃ k, W 0 k [] σ' H) ∧ ∀ i k vs σ H, W i k vs σ H →
      ((Itr lo n).stop i H ∧ ∀ p, H p = none → Q (.ref p) (upd H p (.lst vs))) ∨
      ((Itr lo n).go i H ∧ vs.length < sizeLine ∧ ∃ N : List V → St → Hp → Prop, (∀ vs' σ' H', N vs' σ' H' → ∃ k', k' < k ∧ W (i + 1) k' vs' σ' H') ∧
        ∀ x H', (Itr lo n).yld i H x H' → g x σ H' fun σ2 H2 => tc σ2 H2 fun b H3 => if b = true then te σ2 H3 fun y H4 => N (vs ++ [y]) σ2 H4 else N vs σ2 H3) := by
  refine ⟨fun i m vs σ H => m = n - i ∧ i ≤ n ∧ Pv i vs σ H, ⟨n, by simp, Nat.zero_le _, h0⟩, ?_⟩
  rintro i m vs σ H ⟨rfl, hi, p⟩
  by_cases hlt : i < n
  · refine .inr ⟨hlt, Nat.lt_of_le_of_lt (hn _ _ _ _ p) (Nat.lt_of_lt_of_le hlt hz), Pv (i + 1), fun vs' σ' H' p' => ⟨n - (i + 1), by omega, rfl, hlt, p'⟩, fun x H' y => ?_⟩
    obtain ⟨e, y⟩ := y
    subst e y
    exact hs i vs σ _ hlt p
  · have e : i = n := by omega
    subst e
    exact .inl ⟨Nat.le_refl _, hd vs σ H p⟩
end
end L2
set_option Elab.async false
set_option linter.all false
set_option maxRecDepth 100000
set_option maxHeartbeats 4000000
/-! FURTHER RULES over the hand layer: calls by a def's promise, tables of the module, isinstance, sum, all, == of lists and tuples, division. -/
namespace L2
open PySem PySem.Spec PyProof.Rows
theorem nomk (b : Expr) {op : CmpOp} (h : behindInMarks op b = false := by rfl) : behindInMarks op b = false := h
/-! ### a def by its promise -/
structure Cal (P : Program) (w : World) (K : PySem.W.Frag) (mg : Str → Option Value) (base : Heap) (x : Str) (k : Nat) (ps : List Str) (sp : Sp) : Prop where
  ex : ∃ (f : Addr) (fd : FuncData), FnOk P w K mg base CX0 k f fd ps sp ∧ mg x = some (.ref f) ∧ PySem.W.keepIn K (.ref f) = true ∧ Binds K fd ps []
section
variable {X : Cx} {k : Nat} {ps : List Str} {sp : Sp} {x : Str} {p pos : Pos} {e : Expr} {es : List Expr} {t : TA}
theorem pe_callC (c : Cal X.prog X.w X.K X.mg X.base x k ps sp) (hr : Room k X.A) (ha : PA X (e :: es) t) (hg : Gl X x := by rfl)
    (hdb : (x == ("__debug__" : Str)) = false := by decide) (he : starEach (e :: es) X.env = (false, eval e X.env) :: starEach es X.env := by rfl) (hpl : (backTo pos (starEach es X.env)).any (·.1) = false := by rfl) :
    PE X (.Call (.Name x p) (e :: es) [] pos) (tCall sp [] E0 t) := by
  obtain ⟨f, fd, F, hm, hk, hb⟩ := c.ex
  exact pe_call F hr hg hm hk hb .nil pass0 ha hdb he hpl
end
/-! ### tests and values -/
section
variable {X : Cx} {a b : Expr} {ta tb : TE} {pos : Pos} {tA : TT}
/-- // by a positive divisor, however great (up to 2 ^ 256) -/
theorem op_fdivP : OpR X (binaryOp .FloorDiv) (rI (fun _ j => 0 < j ∧ j ≤ 2 ^ 256) fun i j => .int (i / j)) := opI fun i j _ _ _ _ _ hc q => by
  have h1 : (0 : Int) < j := hc.1
  have h2 : j ≤ 2 ^ 256 := hc.2
  refine floordiv_int (by omega) (by rw [Int.fdiv_eq_ediv_of_nonneg i (by omega)]; exact q) (.inl (PyProof.noPylong_of_log2 ?_))
  have h3 : j.natAbs < 2 ^ 257 := by omega
  have h4 : j.natAbs.log2 < 257 := (Nat.log2_lt (by omega)).mpr h3
  omega
end
/-! ### isinstance -/
section
variable {X : Cx}
theorem call_isinst : CallR X (.builtin "isinstance") (fun xs H Q => ∃ x y t c b, xs = [x, y] ∧ TyOf X.K H x t ∧ RelV y c ∧ PySem.W.kitOne X.K t c = some b ∧ (∀ c', RelV y c' → c' = c) ∧ Q (.bl b) H) := by
  intro pins s σ H xs us Q I r h
  obtain ⟨x, y, t, c, b, rfl, ty, ry, e, un, q⟩ := h
  obtain ⟨u, v, rfl, ru, rv⟩ := vals2 r
  obtain rfl := un v rv
  exact isinst_ok I ru ty e fun tk => ⟨.bl b, H, I.tok _, rfl, q⟩
end
section
variable {X : Cx}
theorem call_allL (hc : X.calm = true) : CallR X (.builtin "all") (fun xs H Q => ∃ (p : Addr) (bs : List Bool), xs = [.ref p] ∧ SqL X.K H p (bs.map V.bl) ∧ Q (.bl (bs.all id)) H) := by
  intro pins s σ H xs us Q I r h
  obtain ⟨p, bs, rfl, hq, q⟩ := h
  obtain ⟨u, rfl, rx⟩ := vals1 r
  cases rx
  obtain ⟨its, rv, pl, hz⟩ := I.list hq
  have hlen := rv.length
  rw [List.length_map] at hlen
  have hlt : p < s.heap.objs.size := by obtain ⟨_, e, _⟩ := pl.isList; exact Heap.lt_size e
  refine call_all_walk (wpAny_pyIter_list pl.isList ?_)
  refine ⟨s.heap.objs.size, _, _, _, _, _, fun i => bs.getD i true, rfl, Walks.list (A := X.A.in1) (I.ok.hd hc) s.heap.objs.size p (Nat.ne_of_lt hlt) its.toArray, ⟨⟨_, Heap.get?_push_size _ rfl, rfl, rfl⟩, pl.isList.push _⟩, ?_, fun h' tk hk => ?_⟩
  · intro i v s' Q' E' hP hQ
    have hP : its.toArray[i]? = some v := hP
    have hi : i < its.length := by
      have := (Array.getElem?_eq_some_iff.mp hP).1
      simpa using this
    have hb : i < bs.length := by omega
    have hx : (bs.map V.bl)[i]? = some (V.bl bs[i]) := by simp [hb]
    obtain ⟨w', hw, rw'⟩ := rv.get hx
    have e : v = w' := by
      have : its[i]? = some v := by simpa using hP
      rw [hw] at this
      exact (Option.some.inj this).symm
    subst e
    cases (show v = Value.bool bs[i] from rw')
    refine wpAny_truthy_bool ?_
    have e2 : bs.getD i true = bs[i] := by simp [hb]
    have hQ : Q' (bs.getD i true) s' := hQ
    rw [e2] at hQ
    exact hQ
  · have I1 : Inv X pins σ H { s with heap := s.heap.push { cls := .type "list_iterator", data := .fields #[.ref p, .int 0 0] } } := I.kept (t' := s.toks) fun b o e => Heap.get?_push_of_some _ e
    have I2 : Inv X pins σ H { s with heap := h', toks := tk } := by
      obtain ⟨f0, f1, f2, f3, f4, f5⟩ := I.fpOk (H' := H) (Nat.le_refl s.heap.objs.size) (I.hok.fresh (Nat.le_refl _))
      exact I.turned (it := s.heap.objs.size) (fun b o hb e => hk b o (by simpa using hb) (Heap.get?_push_of_some _ e)) f0 f1 f3 f4 f5
    refine ⟨.bl (bs.all id), H, I2, ?_, q⟩
    show Value.bool _ = Value.bool _
    congr 1
    have hs : its.toArray.size = bs.length := by simp [hlen]
    rw [hs, Bool.eq_iff_iff, List.all_eq_true, List.all_eq_true]
    constructor
    · intro h x hx
      obtain ⟨i, hi, rfl⟩ := List.getElem_of_mem hx
      have := h i (by simpa using hi)
      simpa [hi] using this
    · intro h i hi
      have hi : i < bs.length := by simpa using hi
      have := h bs[i] (List.getElem_mem hi)
      simpa [hi] using this
end
/-! ### == and != of data -/
mutual
inductive DatV (K : PySem.W.Frag) (H : Hp) : V → PyData → Prop
  | non : DatV K H .non .none
  | bl (b : Bool) : DatV K H (.bl b) (.bool b)
  | int (i : Int) : DatV K H (.int i) (.int i)
  | str (x : Str) : DatV K H (.str x) (.str x)
  | lst {a : Addr} {xs : List V} {ds : List PyData} : SqL K H a xs → DatVs K H xs ds → DatV K H (.ref a) (.list ds)
  | tup {a : Addr} {xs : List V} {ds : List PyData} : SqT K H a xs → DatVs K H xs ds → DatV K H (.ref a) (.tuple ds)
inductive DatVs (K : PySem.W.Frag) (H : Hp) : List V → List PyData → Prop
  | nil : DatVs K H [] []
  | cons {x : V} {xs : List V} {d : PyData} {ds : List PyData} : DatV K H x d → DatVs K H xs ds → DatVs K H (x :: xs) (d :: ds)
end
section
variable {X : Cx} {pins : List (Addr × Obj)} {σ : St} {H : Hp} {s : Shared}
mutual
theorem reads_of (I : Inv X pins σ H s) : ∀ {x : V} {d : PyData} {u : Value}, DatV X.K H x d → RelV x u → ∃ as, Reads s.heap u d as
  | _, _, _, .non, r => by cases r; exact ⟨_, .none⟩
  | _, _, _, .bl b, r => by cases r; exact ⟨_, .bool b⟩
  | _, _, _, .int i, r => by obtain ⟨t, rfl⟩ := r; exact ⟨_, .int i t⟩
  | _, _, _, .str x, r => by obtain ⟨t, rfl⟩ := r; exact ⟨_, .str x t⟩
  | _, _, _, .lst hq hs, r => by
    cases r
    obtain ⟨its, rv, ⟨o, n, e, c, _, dd⟩, _⟩ := I.list hq
    obtain ⟨as, h⟩ := readsAll_of I hs rv
    exact ⟨_, .list e c dd (by simpa using h)⟩
  | _, _, _, .tup hq hs, r => by
    cases r
    obtain ⟨its, rv, ⟨o, e, c, n, dd⟩, _⟩ := I.tuple hq
    obtain ⟨as, h⟩ := readsAll_of I hs rv
    exact ⟨_, .tuple e c dd (by simpa using h)⟩
theorem readsAll_of (I : Inv X pins σ H s) : ∀ {xs : List V} {ds : List PyData} {us : List Value}, DatVs X.K H xs ds → Vals xs us → ∃ as, ReadsAll s.heap us ds as
  | _, _, _, .nil, .nil => ⟨_, .nil⟩
  | _, _, _, .cons h t, .cons r rs => by
    obtain ⟨as, a⟩ := reads_of I h r
    obtain ⟨bs, b⟩ := readsAll_of I t rs
    exact ⟨_, .cons a b⟩
end
end
section
variable {X : Cx}
def rEqD (K : PySem.W.Frag) (neg : Bool) : R2 := fun x y H Q => ∃ d e, DatV K H x d ∧ DatV K H y e ∧ SeqAt.shaped d = true ∧ SeqAt.shaped e = true ∧ SeqAt.noMix d e = true ∧ Q (.bl (if neg = true then !same d e else same d e)) H
theorem op_eqD (hu : X.A.units + 64 < cLine) : OpR X (compareOp .Eq) (rEqD X.K false) := by
  intro pins s σ H x y v u Q I rx ry h
  obtain ⟨d, e, hd, he, sd, se, nm, q⟩ := h
  obtain ⟨as, ra⟩ := reads_of I hd rx
  obtain ⟨bs, rb⟩ := reads_of I he ry
  exact eq_dataH_same ra rb sd se hu nm ⟨.bl (same d e), H, I, rfl, q⟩
theorem op_neD (hu : X.A.units + 64 < cLine) : OpR X (compareOp .NotEq) (rEqD X.K true) := by
  intro pins s σ H x y v u Q I rx ry h
  obtain ⟨d, e, hd, he, sd, se, nm, q⟩ := h
  obtain ⟨as, ra⟩ := reads_of I hd rx
  obtain ⟨bs, rb⟩ := reads_of I he ry
  exact ne_dataH_same ra rb sd se hu nm ⟨.bl (!same d e), H, I, rfl, q⟩
end
/-! ### a dict of the module, read by a key -/
def EntOk (w : World) : List DictEntry → List (Key × V) → Prop
  | [], [] => True
  | e :: es, (k, v) :: kvs => keyIs k e.key = true ∧ e.hash = keyH w k ∧ RelV v e.val ∧ EntOk w es kvs
  | _, _ => False
structure TabK (P : Program) (w : World) (K : PySem.W.Frag) (a : Addr) (kvs : List (Key × V)) : Prop where
  get : ∀ h : Heap, K.In h → ∃ vs, KV kvs vs ∧ h.DictOf (mixKind P w) a vs
theorem TabK.of {P : Program} {w : World} {K : PySem.W.Frag} {a : Addr} {es : Array DictEntry} {n : Nat} {kvs : List (Key × V)} (hl : K.lookup a = some ⟨.type "dict", none, .dict es n, #[]⟩) (he : EntOk w es.toList kvs) (nd : (kvs.map (·.1)).Nodup) : TabK P w K a kvs := by
  refine ⟨fun h X => ?_⟩
  have go : ∀ (l : List DictEntry) (kvs : List (Key × V)), EntOk w l kvs → (∀ e ∈ l, ∃ k, keyIs k e.key = true ∧ e.hash = keyH w k) ∧ ∃ vs : List (Key × Value), KV kvs vs ∧ Pairs (mixKind P w) l vs ∧ vs.map (·.1) = kvs.map (·.1) := by
    intro l
    induction l with
    | nil =>
      intro kvs h
      cases kvs with
      | nil => exact ⟨fun e he => by simp at he, [], .nil, .nil, rfl⟩
      | cons p r => exact h.elim
    | cons e es ih =>
      intro kvs h
      cases kvs with
      | nil => exact h.elim
      | cons p r =>
        obtain ⟨k, v⟩ := p
        obtain ⟨h1, h2, h3, h4⟩ := h
        obtain ⟨g1, vs, g2, g3, g4⟩ := ih r h4
        refine ⟨fun e' he' => ?_, (k, e.val) :: vs, .cons ⟨rfl, h3⟩ g2, .cons h1 rfl g3, by simp [g4]⟩
        rcases List.mem_cons.mp he' with q | q
        · rw [q]; exact ⟨k, h1, h2⟩
        · exact g1 e' q
  obtain ⟨g1, vs, g2, g3, g4⟩ := go es.toList kvs he
  exact ⟨vs, g2, _, es, n, X a _ hl, ⟨rfl, rfl, rfl⟩, rfl, fun e he' => g1 e (by simpa using he'), g3, by rw [g4]; exact nd⟩
section
variable {X : Cx} {x : Str} {p pos : Pos} {i : Expr} {ti : TE} {a : Addr} {kvs : List (Key × V)}
def tTab (kvs : List (Key × V)) (ti : TE) : TE := fun σ H Q => ti σ H fun y H1 => ∃ k v, y = kV k ∧ valV kvs k = some v ∧ Q v H1
theorem pe_tab (hm : X.mg x = some (.ref a)) (hg : Gl X x) (T : TabK X.prog X.w X.K a kvs) (hi : PE X i ti) (hs : NoSl i := by intro _ _; rfl) (hd : (x == ("__debug__" : Str)) = false := by decide) :
    PE X (.Subscript (.Name x p) i pos) (tTab kvs ti) := by
  intro pins s σ H Q I h
  refine subD_of PySem.F.slot_dict_getitem.lookup hs (ld_glob I hg hm ?_ hd)
  refine thn (hi pins s σ H _ I h) fun iv s2 ⟨y, H2, I2, ry, k, v, ey, l, q2⟩ => ?_
  subst ey
  obtain ⟨vs, rel, dd⟩ := T.get s2.heap I2.kIn
  refine ⟨dd.typeIs, ?_⟩
  obtain ⟨w', hw, rw'⟩ := RelO.some_of (v := v) (o := valueAt vs k) (by rw [← l]; exact rel.val k)
  exact wpAny_getItem_of (kV_is ry) dd.mapOf hw ⟨v, H2, I2.tok _, rw', q2⟩
end
/-! ### a, b, .. = a list of that length -/
section
variable {X : Cx} {pos : Pos}
def gLst (K : PySem.W.Frag) (n : Nat) (t : TGs) : TG := fun v σ H Q => ∃ a xs, v = .ref a ∧ SqL K H a xs ∧ xs.length = n ∧ t xs σ H Q
end
/-! ### small words for readings -/
theorem qi {Q : VK} {H : Hp} {a b : Int} (k : Q (.int a) H) (e : b = a) : Q (.int b) H := e ▸ k
theorem qb {Q : VK} {H : Hp} {a b : Bool} (k : Q (.bl a) H) (e : b = a) : Q (.bl b) H := e ▸ k
theorem Same.seqT {K : PySem.W.Frag} {H H' : Hp} {a : Addr} {xs : List V} (e : Same H H') (h : SqT K H a xs) : SqT K H' a xs := by
  rcases h with (h | ⟨o, h⟩) | h
  · exact .inl (.inl (e _ _ h))
  · exact .inl (.inr ⟨o, e _ _ h⟩)
  · exact .inr h
theorem Same.upd {H : Hp} {p : Addr} {o : HO} (h : H p = none) : Same H (upd H p o) := fun b u e => by rw [upd_ne (ne_of_none e h)]; exact e
theorem same_iff {d e : PyData} : same d e = true ↔ d = e := ⟨eq_of_same d e, fun h => h ▸ same_self d⟩
/-! ### calls by shape -/
section
variable {X : Cx}
def rLen (K : PySem.W.Frag) : List V → Hp → VK → Prop
  | [.ref p], H, Q => ∃ ys, (SqL K H p ys ∨ SqT K H p ys) ∧ Q (.int ys.length) H
  | [.str z], H, Q => z.length ≤ sizeLine ∧ Q (.int z.length) H
  | _, _, _ => False
theorem call_lenR : CallR X (.builtin "len") (rLen X.K) := by
  intro pins s σ H xs us Q I r h
  match xs, h with
  | [.ref p], ⟨ys, hq, q⟩ => exact call_len_seq pins s σ H _ us Q I r ⟨p, ys, rfl, hq, q⟩
  | [.str z], ⟨hz, q⟩ => exact call_len_str pins s σ H _ us Q I r ⟨z, rfl, hz, q⟩
def kndV : V → Option String
  | .non => some "NoneType"
  | .bl _ => some "bool"
  | .int _ => some "int"
  | .str _ => some "str"
  | _ => none
/-- isinstance(x, T), x a plain value -/
def rIsi (K : PySem.W.Frag) : List V → Hp → VK → Prop
  | [x, .ty n], H, Q => ∃ t b, kndV x = some t ∧ PySem.W.kitOne K (.type t) (.type n) = some b ∧ Q (.bl b) H
  | _, _, _ => False
theorem call_isi : CallR X (.builtin "isinstance") (rIsi X.K) := by
  intro pins s σ H xs us Q I r h
  match xs, h with
  | [x, .ty n], ⟨t, b, hk, e, q⟩ =>
    have ty : TyOf X.K H x (.type t) := by
      cases x with
      | non => cases hk; exact .non
      | bl y => cases hk; exact .bl y
      | int y => cases hk; exact .int y
      | str y => cases hk; exact .str y
      | _ => cases hk
    exact call_isinst pins s σ H _ us Q I r ⟨x, .ty n, .type t, .type n, b, rfl, ty, rfl, e, fun _ h => h, q⟩
/-- .. a list; a tuple -/
def rIsiL (K : PySem.W.Frag) : List V → Hp → VK → Prop
  | [.ref p, .ty n], H, Q => (∃ xs, SqL K H p xs) ∧ ∃ b, PySem.W.kitOne K (.type "list") (.type n) = some b ∧ Q (.bl b) H
  | _, _, _ => False
def rIsiT (K : PySem.W.Frag) : List V → Hp → VK → Prop
  | [.ref p, .ty n], H, Q => (∃ xs, SqT K H p xs) ∧ ∃ b, PySem.W.kitOne K (.type "tuple") (.type n) = some b ∧ Q (.bl b) H
  | _, _, _ => False
theorem call_isiL : CallR X (.builtin "isinstance") (rIsiL X.K) := by
  intro pins s σ H xs us Q I r h
  match xs, h with
  | [.ref p, .ty n], ⟨⟨xs, hq⟩, b, e, q⟩ =>
    obtain ⟨u, v, rfl, ru, rv⟩ := vals2 r
    cases ru
    cases rv
    obtain ⟨its, _, ⟨o, n', e1, c, _, _⟩, _⟩ := I.list hq
    exact PySem.W.kia_one PySem.W.kitx_list I.kIn ⟨o, e1, c⟩ e (fun z => nomatch z) fun tk => ⟨.bl b, H, I.tok _, rfl, q⟩
theorem call_isiT : CallR X (.builtin "isinstance") (rIsiT X.K) := by
  intro pins s σ H xs us Q I r h
  match xs, h with
  | [.ref p, .ty n], ⟨⟨xs, hq⟩, b, e, q⟩ =>
    obtain ⟨u, v, rfl, ru, rv⟩ := vals2 r
    cases ru
    cases rv
    obtain ⟨its, _, ⟨o, e1, c, _⟩, _⟩ := I.tuple hq
    exact PySem.W.kia_one PySem.W.kitx_tuple I.kIn ⟨o, e1, c⟩ e (fun z => nomatch z) fun tk => ⟨.bl b, H, I.tok _, rfl, q⟩
def rSum (K : PySem.W.Frag) : List V → Hp → VK → Prop
  | [.ref p], H, Q => ∃ ns : List Int, SqL K H p (ns.map V.int) ∧ Q (.int ns.sum) H
  | _, _, _ => False
def rAll (K : PySem.W.Frag) : List V → Hp → VK → Prop
  | [.ref p], H, Q => ∃ bs : List Bool, SqL K H p (bs.map V.bl) ∧ Q (.bl (bs.all id)) H
  | _, _, _ => False
theorem call_allR (hc : X.calm = true) : CallR X (.builtin "all") (rAll X.K) := by
  intro pins s σ H xs us Q I r h
  match xs, h with
  | [.ref p], ⟨ns, hq, q⟩ => exact call_allL hc pins s σ H _ us Q I r ⟨p, ns, rfl, hq, q⟩
def rInt1 : List V → Hp → VK → Prop
  | [.int i], H, Q => Q (.int i) H
  | [.bl k], H, Q => Q (.int (if k = true then 1 else 0)) H
  | _, _, _ => False
theorem call_int1R : CallR X (.type "int") rInt1 := by
  intro pins s σ H xs us Q I r h
  match xs, h with
  | [.int i], q => exact call_int1 pins s σ H _ us Q I r (.inl ⟨i, rfl, q⟩)
  | [.bl k], q => exact call_int1 pins s σ H _ us Q I r (.inr ⟨k, rfl, q⟩)
def rListOf (K : PySem.W.Frag) : List V → Hp → VK → Prop
  | [.ref p], H, Q => ∃ ys, (SqL K H p ys ∨ SqT K H p ys) ∧ ∀ l, H l = none → Q (.ref l) (upd H l (.lst ys))
  | _, _, _ => False
def rStrI : List V → Hp → VK → Prop
  | [.int i], H, Q => i.natAbs.log2 < 1920 ∧ Q (.str (toString i)) H
  | _, _, _ => False
end
theorem kit_int_int {K : PySem.W.Frag} : PySem.W.kitOne K (.type "int") (.type "int") = some true := by rfl
theorem kit_int_bool {K : PySem.W.Frag} : PySem.W.kitOne K (.type "int") (.type "bool") = some false := by rfl
theorem kit_tup_tup {K : PySem.W.Frag} : PySem.W.kitOne K (.type "tuple") (.type "tuple") = some true := by rfl
theorem kit_list_list {K : PySem.W.Frag} : PySem.W.kitOne K (.type "list") (.type "list") = some true := by rfl
theorem calOf {P : Program} {w : World} {K : PySem.W.Frag} {mg : Str → Option Value} {base : Heap} {x : Str} {k : Nat} {ps : List Str} {sp : Sp} {f : Addr} {fd : FuncData} (h : FnOk P w K mg base CX0 k f fd ps sp) (hm : mg x = some (.ref f)) (hk : PySem.W.keepIn K (.ref f) = true) (hb : Binds K fd ps []) : Cal P w K mg base x k ps sp := ⟨f, fd, h, hm, hk, hb⟩
/-! ### a if t else b, a and b written numbers: one value -/
section
variable {X : Cx} {c : Expr} {tA : TT} {a b : Int} {j j' : Nat} {p p' pos : Pos}
def tIfC (t : TT) (a b : Int) : TE := fun σ H Q => t σ H fun c H1 => Q (.int (if c = true then a else b)) H1
theorem pe_ifC (hc : PT X c tA) : PE X (.IfExp c (.Constant (.int a) j p) (.Constant (.int b) j' p') pos) (tIfC tA a b) := by
  intro pins s σ H Q I h
  refine wpAny_IfExp (thn (hc pins s σ H _ I h) fun d s1 ⟨H1, I1, q1⟩ => ?_)
  cases d with
  | true => exact pe_int pins s1 σ H1 Q I1 q1
  | false => exact pe_int pins s1 σ H1 Q I1 q1
end
/-! ### the built-in names -/
theorem bb_len : bootBuiltins "len" = some (.builtin "len") := by decide +kernel
theorem bb_isinstance : bootBuiltins "isinstance" = some (.builtin "isinstance") := by decide +kernel
theorem bb_all : bootBuiltins "all" = some (.builtin "all") := by decide +kernel
theorem bb_int : bootBuiltins "int" = some (.type "int") := by decide +kernel
theorem bb_bool : bootBuiltins "bool" = some (.type "bool") := by decide +kernel
theorem bb_list : bootBuiltins "list" = some (.type "list") := by decide +kernel
theorem bb_tuple : bootBuiltins "tuple" = some (.type "tuple") := by decide +kernel
end L2
set_option Elab.async false
set_option linter.all false
set_option maxRecDepth 100000
set_option maxHeartbeats 4000000
/-! A READING WORKED OFF FROM ITS HEAD: each row rewrites the transformer that stands foremost; «simp only» by these rows (as pre-rows) leaves the conditions alone. -/
namespace L2
open PySem PySem.Spec PyProof.Rows
namespace Rd
section
variable {D : Ends} {σ : St} {H : Hp} {Q : VK} {QB : Bool → Hp → Prop} {QA : List V → Hp → Prop} {QS : St → Hp → Prop}
theorem v0 {v : V} {r : St} : tVar 0 (some v :: r) H Q = Q v H := propext ⟨fun ⟨_, e, q⟩ => by cases e; exact q, fun q => ⟨v, rfl, q⟩⟩
theorem g0 {b : Option V} {v : V} {r : St} : gName 0 v (b :: r) H QS = QS (some v :: r) H := rfl
theorem v1 {a0 : Option V} {v : V} {r : St} : tVar 1 (a0 :: some v :: r) H Q = Q v H := propext ⟨fun ⟨_, e, q⟩ => by cases e; exact q, fun q => ⟨v, rfl, q⟩⟩
theorem g1 {a0 b : Option V} {v : V} {r : St} : gName 1 v (a0 :: b :: r) H QS = QS (a0 :: some v :: r) H := rfl
theorem v2 {a0 a1 : Option V} {v : V} {r : St} : tVar 2 (a0 :: a1 :: some v :: r) H Q = Q v H := propext ⟨fun ⟨_, e, q⟩ => by cases e; exact q, fun q => ⟨v, rfl, q⟩⟩
theorem g2 {a0 a1 b : Option V} {v : V} {r : St} : gName 2 v (a0 :: a1 :: b :: r) H QS = QS (a0 :: a1 :: some v :: r) H := rfl
theorem v3 {a0 a1 a2 : Option V} {v : V} {r : St} : tVar 3 (a0 :: a1 :: a2 :: some v :: r) H Q = Q v H := propext ⟨fun ⟨_, e, q⟩ => by cases e; exact q, fun q => ⟨v, rfl, q⟩⟩
theorem g3 {a0 a1 a2 b : Option V} {v : V} {r : St} : gName 3 v (a0 :: a1 :: a2 :: b :: r) H QS = QS (a0 :: a1 :: a2 :: some v :: r) H := rfl
theorem v4 {a0 a1 a2 a3 : Option V} {v : V} {r : St} : tVar 4 (a0 :: a1 :: a2 :: a3 :: some v :: r) H Q = Q v H := propext ⟨fun ⟨_, e, q⟩ => by cases e; exact q, fun q => ⟨v, rfl, q⟩⟩
theorem g4 {a0 a1 a2 a3 b : Option V} {v : V} {r : St} : gName 4 v (a0 :: a1 :: a2 :: a3 :: b :: r) H QS = QS (a0 :: a1 :: a2 :: a3 :: some v :: r) H := rfl
theorem v5 {a0 a1 a2 a3 a4 : Option V} {v : V} {r : St} : tVar 5 (a0 :: a1 :: a2 :: a3 :: a4 :: some v :: r) H Q = Q v H := propext ⟨fun ⟨_, e, q⟩ => by cases e; exact q, fun q => ⟨v, rfl, q⟩⟩
theorem g5 {a0 a1 a2 a3 a4 b : Option V} {v : V} {r : St} : gName 5 v (a0 :: a1 :: a2 :: a3 :: a4 :: b :: r) H QS = QS (a0 :: a1 :: a2 :: a3 :: a4 :: some v :: r) H := rfl
theorem v6 {a0 a1 a2 a3 a4 a5 : Option V} {v : V} {r : St} : tVar 6 (a0 :: a1 :: a2 :: a3 :: a4 :: a5 :: some v :: r) H Q = Q v H := propext ⟨fun ⟨_, e, q⟩ => by cases e; exact q, fun q => ⟨v, rfl, q⟩⟩
theorem g6 {a0 a1 a2 a3 a4 a5 b : Option V} {v : V} {r : St} : gName 6 v (a0 :: a1 :: a2 :: a3 :: a4 :: a5 :: b :: r) H QS = QS (a0 :: a1 :: a2 :: a3 :: a4 :: a5 :: some v :: r) H := rfl
theorem v7 {a0 a1 a2 a3 a4 a5 a6 : Option V} {v : V} {r : St} : tVar 7 (a0 :: a1 :: a2 :: a3 :: a4 :: a5 :: a6 :: some v :: r) H Q = Q v H := propext ⟨fun ⟨_, e, q⟩ => by cases e; exact q, fun q => ⟨v, rfl, q⟩⟩
theorem g7 {a0 a1 a2 a3 a4 a5 a6 b : Option V} {v : V} {r : St} : gName 7 v (a0 :: a1 :: a2 :: a3 :: a4 :: a5 :: a6 :: b :: r) H QS = QS (a0 :: a1 :: a2 :: a3 :: a4 :: a5 :: a6 :: some v :: r) H := rfl
theorem v8 {a0 a1 a2 a3 a4 a5 a6 a7 : Option V} {v : V} {r : St} : tVar 8 (a0 :: a1 :: a2 :: a3 :: a4 :: a5 :: a6 :: a7 :: some v :: r) H Q = Q v H := propext ⟨fun ⟨_, e, q⟩ => by cases e; exact q, fun q => ⟨v, rfl, q⟩⟩
theorem g8 {a0 a1 a2 a3 a4 a5 a6 a7 b : Option V} {v : V} {r : St} : gName 8 v (a0 :: a1 :: a2 :: a3 :: a4 :: a5 :: a6 :: a7 :: b :: r) H QS = QS (a0 :: a1 :: a2 :: a3 :: a4 :: a5 :: a6 :: a7 :: some v :: r) H := rfl
theorem v9 {a0 a1 a2 a3 a4 a5 a6 a7 a8 : Option V} {v : V} {r : St} : tVar 9 (a0 :: a1 :: a2 :: a3 :: a4 :: a5 :: a6 :: a7 :: a8 :: some v :: r) H Q = Q v H := propext ⟨fun ⟨_, e, q⟩ => by cases e; exact q, fun q => ⟨v, rfl, q⟩⟩
theorem g9 {a0 a1 a2 a3 a4 a5 a6 a7 a8 b : Option V} {v : V} {r : St} : gName 9 v (a0 :: a1 :: a2 :: a3 :: a4 :: a5 :: a6 :: a7 :: a8 :: b :: r) H QS = QS (a0 :: a1 :: a2 :: a3 :: a4 :: a5 :: a6 :: a7 :: a8 :: some v :: r) H := rfl
theorem v10 {a0 a1 a2 a3 a4 a5 a6 a7 a8 a9 : Option V} {v : V} {r : St} : tVar 10 (a0 :: a1 :: a2 :: a3 :: a4 :: a5 :: a6 :: a7 :: a8 :: a9 :: some v :: r) H Q = Q v H := propext ⟨fun ⟨_, e, q⟩ => by cases e; exact q, fun q => ⟨v, rfl, q⟩⟩
theorem g10 {a0 a1 a2 a3 a4 a5 a6 a7 a8 a9 b : Option V} {v : V} {r : St} : gName 10 v (a0 :: a1 :: a2 :: a3 :: a4 :: a5 :: a6 :: a7 :: a8 :: a9 :: b :: r) H QS = QS (a0 :: a1 :: a2 :: a3 :: a4 :: a5 :: a6 :: a7 :: a8 :: a9 :: some v :: r) H := rfl
theorem v11 {a0 a1 a2 a3 a4 a5 a6 a7 a8 a9 a10 : Option V} {v : V} {r : St} : tVar 11 (a0 :: a1 :: a2 :: a3 :: a4 :: a5 :: a6 :: a7 :: a8 :: a9 :: a10 :: some v :: r) H Q = Q v H := propext ⟨fun ⟨_, e, q⟩ => by cases e; exact q, fun q => ⟨v, rfl, q⟩⟩
theorem g11 {a0 a1 a2 a3 a4 a5 a6 a7 a8 a9 a10 b : Option V} {v : V} {r : St} : gName 11 v (a0 :: a1 :: a2 :: a3 :: a4 :: a5 :: a6 :: a7 :: a8 :: a9 :: a10 :: b :: r) H QS = QS (a0 :: a1 :: a2 :: a3 :: a4 :: a5 :: a6 :: a7 :: a8 :: a9 :: a10 :: some v :: r) H := rfl
theorem v12 {a0 a1 a2 a3 a4 a5 a6 a7 a8 a9 a10 a11 : Option V} {v : V} {r : St} : tVar 12 (a0 :: a1 :: a2 :: a3 :: a4 :: a5 :: a6 :: a7 :: a8 :: a9 :: a10 :: a11 :: some v :: r) H Q = Q v H := propext ⟨fun ⟨_, e, q⟩ => by cases e; exact q, fun q => ⟨v, rfl, q⟩⟩
theorem g12 {a0 a1 a2 a3 a4 a5 a6 a7 a8 a9 a10 a11 b : Option V} {v : V} {r : St} : gName 12 v (a0 :: a1 :: a2 :: a3 :: a4 :: a5 :: a6 :: a7 :: a8 :: a9 :: a10 :: a11 :: b :: r) H QS = QS (a0 :: a1 :: a2 :: a3 :: a4 :: a5 :: a6 :: a7 :: a8 :: a9 :: a10 :: a11 :: some v :: r) H := rfl
theorem v13 {a0 a1 a2 a3 a4 a5 a6 a7 a8 a9 a10 a11 a12 : Option V} {v : V} {r : St} : tVar 13 (a0 :: a1 :: a2 :: a3 :: a4 :: a5 :: a6 :: a7 :: a8 :: a9 :: a10 :: a11 :: a12 :: some v :: r) H Q = Q v H := propext ⟨fun ⟨_, e, q⟩ => by cases e; exact q, fun q => ⟨v, rfl, q⟩⟩
theorem g13 {a0 a1 a2 a3 a4 a5 a6 a7 a8 a9 a10 a11 a12 b : Option V} {v : V} {r : St} : gName 13 v (a0 :: a1 :: a2 :: a3 :: a4 :: a5 :: a6 :: a7 :: a8 :: a9 :: a10 :: a11 :: a12 :: b :: r) H QS = QS (a0 :: a1 :: a2 :: a3 :: a4 :: a5 :: a6 :: a7 :: a8 :: a9 :: a10 :: a11 :: a12 :: some v :: r) H := rfl
theorem v14 {a0 a1 a2 a3 a4 a5 a6 a7 a8 a9 a10 a11 a12 a13 : Option V} {v : V} {r : St} : tVar 14 (a0 :: a1 :: a2 :: a3 :: a4 :: a5 :: a6 :: a7 :: a8 :: a9 :: a10 :: a11 :: a12 :: a13 :: some v :: r) H Q = Q v H := propext ⟨fun ⟨_, e, q⟩ => by cases e; exact q, fun q => ⟨v, rfl, q⟩⟩
theorem g14 {a0 a1 a2 a3 a4 a5 a6 a7 a8 a9 a10 a11 a12 a13 b : Option V} {v : V} {r : St} : gName 14 v (a0 :: a1 :: a2 :: a3 :: a4 :: a5 :: a6 :: a7 :: a8 :: a9 :: a10 :: a11 :: a12 :: a13 :: b :: r) H QS = QS (a0 :: a1 :: a2 :: a3 :: a4 :: a5 :: a6 :: a7 :: a8 :: a9 :: a10 :: a11 :: a12 :: a13 :: some v :: r) H := rfl
theorem v15 {a0 a1 a2 a3 a4 a5 a6 a7 a8 a9 a10 a11 a12 a13 a14 : Option V} {v : V} {r : St} : tVar 15 (a0 :: a1 :: a2 :: a3 :: a4 :: a5 :: a6 :: a7 :: a8 :: a9 :: a10 :: a11 :: a12 :: a13 :: a14 :: some v :: r) H Q = Q v H := propext ⟨fun ⟨_, e, q⟩ => by cases e; exact q, fun q => ⟨v, rfl, q⟩⟩
theorem g15 {a0 a1 a2 a3 a4 a5 a6 a7 a8 a9 a10 a11 a12 a13 a14 b : Option V} {v : V} {r : St} : gName 15 v (a0 :: a1 :: a2 :: a3 :: a4 :: a5 :: a6 :: a7 :: a8 :: a9 :: a10 :: a11 :: a12 :: a13 :: a14 :: b :: r) H QS = QS (a0 :: a1 :: a2 :: a3 :: a4 :: a5 :: a6 :: a7 :: a8 :: a9 :: a10 :: a11 :: a12 :: a13 :: a14 :: some v :: r) H := rfl
theorem v16 {a0 a1 a2 a3 a4 a5 a6 a7 a8 a9 a10 a11 a12 a13 a14 a15 : Option V} {v : V} {r : St} : tVar 16 (a0 :: a1 :: a2 :: a3 :: a4 :: a5 :: a6 :: a7 :: a8 :: a9 :: a10 :: a11 :: a12 :: a13 :: a14 :: a15 :: some v :: r) H Q = Q v H := propext ⟨fun ⟨_, e, q⟩ => by cases e; exact q, fun q => ⟨v, rfl, q⟩⟩
theorem g16 {a0 a1 a2 a3 a4 a5 a6 a7 a8 a9 a10 a11 a12 a13 a14 a15 b : Option V} {v : V} {r : St} : gName 16 v (a0 :: a1 :: a2 :: a3 :: a4 :: a5 :: a6 :: a7 :: a8 :: a9 :: a10 :: a11 :: a12 :: a13 :: a14 :: a15 :: b :: r) H QS = QS (a0 :: a1 :: a2 :: a3 :: a4 :: a5 :: a6 :: a7 :: a8 :: a9 :: a10 :: a11 :: a12 :: a13 :: a14 :: a15 :: some v :: r) H := rfl
theorem v17 {a0 a1 a2 a3 a4 a5 a6 a7 a8 a9 a10 a11 a12 a13 a14 a15 a16 : Option V} {v : V} {r : St} : tVar 17 (a0 :: a1 :: a2 :: a3 :: a4 :: a5 :: a6 :: a7 :: a8 :: a9 :: a10 :: a11 :: a12 :: a13 :: a14 :: a15 :: a16 :: some v :: r) H Q = Q v H := propext ⟨fun ⟨_, e, q⟩ => by cases e; exact q, fun q => ⟨v, rfl, q⟩⟩
theorem g17 {a0 a1 a2 a3 a4 a5 a6 a7 a8 a9 a10 a11 a12 a13 a14 a15 a16 b : Option V} {v : V} {r : St} : gName 17 v (a0 :: a1 :: a2 :: a3 :: a4 :: a5 :: a6 :: a7 :: a8 :: a9 :: a10 :: a11 :: a12 :: a13 :: a14 :: a15 :: a16 :: b :: r) H QS = QS (a0 :: a1 :: a2 :: a3 :: a4 :: a5 :: a6 :: a7 :: a8 :: a9 :: a10 :: a11 :: a12 :: a13 :: a14 :: a15 :: a16 :: some v :: r) H := rfl
theorem v18 {a0 a1 a2 a3 a4 a5 a6 a7 a8 a9 a10 a11 a12 a13 a14 a15 a16 a17 : Option V} {v : V} {r : St} : tVar 18 (a0 :: a1 :: a2 :: a3 :: a4 :: a5 :: a6 :: a7 :: a8 :: a9 :: a10 :: a11 :: a12 :: a13 :: a14 :: a15 :: a16 :: a17 :: some v :: r) H Q = Q v H := propext ⟨fun ⟨_, e, q⟩ => by cases e; exact q, fun q => ⟨v, rfl, q⟩⟩
theorem g18 {a0 a1 a2 a3 a4 a5 a6 a7 a8 a9 a10 a11 a12 a13 a14 a15 a16 a17 b : Option V} {v : V} {r : St} : gName 18 v (a0 :: a1 :: a2 :: a3 :: a4 :: a5 :: a6 :: a7 :: a8 :: a9 :: a10 :: a11 :: a12 :: a13 :: a14 :: a15 :: a16 :: a17 :: b :: r) H QS = QS (a0 :: a1 :: a2 :: a3 :: a4 :: a5 :: a6 :: a7 :: a8 :: a9 :: a10 :: a11 :: a12 :: a13 :: a14 :: a15 :: a16 :: a17 :: some v :: r) H := rfl
theorem v19 {a0 a1 a2 a3 a4 a5 a6 a7 a8 a9 a10 a11 a12 a13 a14 a15 a16 a17 a18 : Option V} {v : V} {r : St} : tVar 19 (a0 :: a1 :: a2 :: a3 :: a4 :: a5 :: a6 :: a7 :: a8 :: a9 :: a10 :: a11 :: a12 :: a13 :: a14 :: a15 :: a16 :: a17 :: a18 :: some v :: r) H Q = Q v H := propext ⟨fun ⟨_, e, q⟩ => by cases e; exact q, fun q => ⟨v, rfl, q⟩⟩
theorem g19 {a0 a1 a2 a3 a4 a5 a6 a7 a8 a9 a10 a11 a12 a13 a14 a15 a16 a17 a18 b : Option V} {v : V} {r : St} : gName 19 v (a0 :: a1 :: a2 :: a3 :: a4 :: a5 :: a6 :: a7 :: a8 :: a9 :: a10 :: a11 :: a12 :: a13 :: a14 :: a15 :: a16 :: a17 :: a18 :: b :: r) H QS = QS (a0 :: a1 :: a2 :: a3 :: a4 :: a5 :: a6 :: a7 :: a8 :: a9 :: a10 :: a11 :: a12 :: a13 :: a14 :: a15 :: a16 :: a17 :: a18 :: some v :: r) H := rfl
theorem v20 {a0 a1 a2 a3 a4 a5 a6 a7 a8 a9 a10 a11 a12 a13 a14 a15 a16 a17 a18 a19 : Option V} {v : V} {r : St} : tVar 20 (a0 :: a1 :: a2 :: a3 :: a4 :: a5 :: a6 :: a7 :: a8 :: a9 :: a10 :: a11 :: a12 :: a13 :: a14 :: a15 :: a16 :: a17 :: a18 :: a19 :: some v :: r) H Q = Q v H := propext ⟨fun ⟨_, e, q⟩ => by cases e; exact q, fun q => ⟨v, rfl, q⟩⟩
theorem g20 {a0 a1 a2 a3 a4 a5 a6 a7 a8 a9 a10 a11 a12 a13 a14 a15 a16 a17 a18 a19 b : Option V} {v : V} {r : St} : gName 20 v (a0 :: a1 :: a2 :: a3 :: a4 :: a5 :: a6 :: a7 :: a8 :: a9 :: a10 :: a11 :: a12 :: a13 :: a14 :: a15 :: a16 :: a17 :: a18 :: a19 :: b :: r) H QS = QS (a0 :: a1 :: a2 :: a3 :: a4 :: a5 :: a6 :: a7 :: a8 :: a9 :: a10 :: a11 :: a12 :: a13 :: a14 :: a15 :: a16 :: a17 :: a18 :: a19 :: some v :: r) H := rfl
theorem v21 {a0 a1 a2 a3 a4 a5 a6 a7 a8 a9 a10 a11 a12 a13 a14 a15 a16 a17 a18 a19 a20 : Option V} {v : V} {r : St} : tVar 21 (a0 :: a1 :: a2 :: a3 :: a4 :: a5 :: a6 :: a7 :: a8 :: a9 :: a10 :: a11 :: a12 :: a13 :: a14 :: a15 :: a16 :: a17 :: a18 :: a19 :: a20 :: some v :: r) H Q = Q v H := propext ⟨fun ⟨_, e, q⟩ => by cases e; exact q, fun q => ⟨v, rfl, q⟩⟩
theorem g21 {a0 a1 a2 a3 a4 a5 a6 a7 a8 a9 a10 a11 a12 a13 a14 a15 a16 a17 a18 a19 a20 b : Option V} {v : V} {r : St} : gName 21 v (a0 :: a1 :: a2 :: a3 :: a4 :: a5 :: a6 :: a7 :: a8 :: a9 :: a10 :: a11 :: a12 :: a13 :: a14 :: a15 :: a16 :: a17 :: a18 :: a19 :: a20 :: b :: r) H QS = QS (a0 :: a1 :: a2 :: a3 :: a4 :: a5 :: a6 :: a7 :: a8 :: a9 :: a10 :: a11 :: a12 :: a13 :: a14 :: a15 :: a16 :: a17 :: a18 :: a19 :: a20 :: some v :: r) H := rfl
theorem v22 {a0 a1 a2 a3 a4 a5 a6 a7 a8 a9 a10 a11 a12 a13 a14 a15 a16 a17 a18 a19 a20 a21 : Option V} {v : V} {r : St} : tVar 22 (a0 :: a1 :: a2 :: a3 :: a4 :: a5 :: a6 :: a7 :: a8 :: a9 :: a10 :: a11 :: a12 :: a13 :: a14 :: a15 :: a16 :: a17 :: a18 :: a19 :: a20 :: a21 :: some v :: r) H Q = Q v H := propext ⟨fun ⟨_, e, q⟩ => by cases e; exact q, fun q => ⟨v, rfl, q⟩⟩
theorem g22 {a0 a1 a2 a3 a4 a5 a6 a7 a8 a9 a10 a11 a12 a13 a14 a15 a16 a17 a18 a19 a20 a21 b : Option V} {v : V} {r : St} : gName 22 v (a0 :: a1 :: a2 :: a3 :: a4 :: a5 :: a6 :: a7 :: a8 :: a9 :: a10 :: a11 :: a12 :: a13 :: a14 :: a15 :: a16 :: a17 :: a18 :: a19 :: a20 :: a21 :: b :: r) H QS = QS (a0 :: a1 :: a2 :: a3 :: a4 :: a5 :: a6 :: a7 :: a8 :: a9 :: a10 :: a11 :: a12 :: a13 :: a14 :: a15 :: a16 :: a17 :: a18 :: a19 :: a20 :: a21 :: some v :: r) H := rfl
theorem v23 {a0 a1 a2 a3 a4 a5 a6 a7 a8 a9 a10 a11 a12 a13 a14 a15 a16 a17 a18 a19 a20 a21 a22 : Option V} {v : V} {r : St} : tVar 23 (a0 :: a1 :: a2 :: a3 :: a4 :: a5 :: a6 :: a7 :: a8 :: a9 :: a10 :: a11 :: a12 :: a13 :: a14 :: a15 :: a16 :: a17 :: a18 :: a19 :: a20 :: a21 :: a22 :: some v :: r) H Q = Q v H := propext ⟨fun ⟨_, e, q⟩ => by cases e; exact q, fun q => ⟨v, rfl, q⟩⟩
theorem g23 {a0 a1 a2 a3 a4 a5 a6 a7 a8 a9 a10 a11 a12 a13 a14 a15 a16 a17 a18 a19 a20 a21 a22 b : Option V} {v : V} {r : St} : gName 23 v (a0 :: a1 :: a2 :: a3 :: a4 :: a5 :: a6 :: a7 :: a8 :: a9 :: a10 :: a11 :: a12 :: a13 :: a14 :: a15 :: a16 :: a17 :: a18 :: a19 :: a20 :: a21 :: a22 :: b :: r) H QS = QS (a0 :: a1 :: a2 :: a3 :: a4 :: a5 :: a6 :: a7 :: a8 :: a9 :: a10 :: a11 :: a12 :: a13 :: a14 :: a15 :: a16 :: a17 :: a18 :: a19 :: a20 :: a21 :: a22 :: some v :: r) H := rfl
def isB (QB : Bool → Hp → Prop) : VK := fun x H => ∃ k, x = .bl k ∧ QB k H
theorem isB_bl {k : Bool} : isB QB (.bl k) H = QB k H := propext ⟨fun ⟨_, e, q⟩ => by cases e; exact q, fun q => ⟨k, rfl, q⟩⟩
theorem cxK {CX : CXT} {P : Program} {w : World} {K : PySem.W.Frag} {mg : Str → Option Value} {base : Heap} {N : List Str} {qual : Str} {scope : Scope} {f : Addr} {cd : Value} {A : Around} {outer : List Env} {s : Shared} {E : XK} : (cxOf CX P w K mg base N qual scope f cd A outer s H E).K = K := rfl
theorem nab10 : Int.natAbs 10 = 10 := rfl
theorem nab2 : Int.natAbs 2 = 2 := rfl
theorem seq {t u : TS} : tSeq t u D σ H = t { D with nx := u D } σ H := rfl
theorem nxt : tNext D σ H = D.nx σ H := rfl
theorem brk : tBreak D σ H = D.bk σ H := rfl
theorem cnt : tCont D σ H = D.ct σ H := rfl
theorem drp {te : TE} : tDrop te D σ H = te σ H fun _ H1 => D.nx σ H1 := rfl
theorem ret {te : TE} : tRet te D σ H = te σ H D.rt := rfl
theorem retN : tRetN D σ H = D.rt .non H := rfl
theorem ifS {c : TT} {t u : TS} : tIfS c t u D σ H = c σ H fun b H1 => if b = true then t D σ H1 else u D σ H1 := rfl
theorem asg {te : TE} {g : TG} : tAsg te g D σ H = te σ H fun x H1 => g x σ H1 D.nx := rfl
theorem cst {v : V} : tC v σ H Q = Q v H := rfl
theorem op {r : R2} {ta tb : TE} : tOp r ta tb σ H Q = ta σ H fun x H1 => tb σ H1 fun y H2 => r x y H2 Q := rfl
theorem I0 {g : Int → Int → V} {i j : Int} : rI0 g (.int i) (.int j) H Q = Q (g i j) H := propext ⟨fun ⟨_, _, e, f, q⟩ => by cases e; cases f; exact q, fun q => ⟨i, j, rfl, rfl, q⟩⟩
theorem I1 {C : Int → Int → Prop} {g : Int → Int → V} {i j : Int} : rI C g (.int i) (.int j) H Q = (C i j ∧ Q (g i j) H) := propext ⟨fun ⟨_, _, e, f, c, q⟩ => by cases e; cases f; exact ⟨c, q⟩, fun ⟨c, q⟩ => ⟨i, j, rfl, rfl, c, q⟩⟩
theorem eqI {i j : Int} : rEq (.int i) (.int j) H Q = Q (.bl (decide (i = j))) H := by
  have e : decide (V.int i = V.int j) = decide (i = j) := decide_eq_decide.mpr ⟨V.int.inj, congrArg V.int⟩
  refine propext ⟨fun h => ?_, fun q => ⟨rfl, ?_⟩⟩
  · have q := h.2; rw [e] at q; exact q
  · rw [e]; exact q
theorem neI {i j : Int} : rNe (.int i) (.int j) H Q = Q (.bl (!decide (i = j))) H := by
  have e : decide (V.int i = V.int j) = decide (i = j) := decide_eq_decide.mpr ⟨V.int.inj, congrArg V.int⟩
  refine propext ⟨fun h => ?_, fun q => ⟨rfl, ?_⟩⟩
  · have q := h.2; rw [e] at q; exact q
  · rw [e]; exact q
theorem eqS {i j : Str} : rEq (.str i) (.str j) H Q = Q (.bl (decide (i = j))) H := by
  have e : decide (V.str i = V.str j) = decide (i = j) := decide_eq_decide.mpr ⟨V.str.inj, congrArg V.str⟩
  refine propext ⟨fun h => ?_, fun q => ⟨rfl, ?_⟩⟩
  · have q := h.2; rw [e] at q; exact q
  · rw [e]; exact q
theorem neS {i j : Str} : rNe (.str i) (.str j) H Q = Q (.bl (!decide (i = j))) H := by
  have e : decide (V.str i = V.str j) = decide (i = j) := decide_eq_decide.mpr ⟨V.str.inj, congrArg V.str⟩
  refine propext ⟨fun h => ?_, fun q => ⟨rfl, ?_⟩⟩
  · have q := h.2; rw [e] at q; exact q
  · rw [e]; exact q
theorem eqB {i j : Bool} : rEq (.bl i) (.bl j) H Q = Q (.bl (decide (i = j))) H := by
  have e : decide (V.bl i = V.bl j) = decide (i = j) := decide_eq_decide.mpr ⟨V.bl.inj, congrArg V.bl⟩
  refine propext ⟨fun h => ?_, fun q => ⟨rfl, ?_⟩⟩
  · have q := h.2; rw [e] at q; exact q
  · rw [e]; exact q
theorem neB {i j : Bool} : rNe (.bl i) (.bl j) H Q = Q (.bl (!decide (i = j))) H := by
  have e : decide (V.bl i = V.bl j) = decide (i = j) := decide_eq_decide.mpr ⟨V.bl.inj, congrArg V.bl⟩
  refine propext ⟨fun h => ?_, fun q => ⟨rfl, ?_⟩⟩
  · have q := h.2; rw [e] at q; exact q
  · rw [e]; exact q
theorem un {r : V → Hp → VK → Prop} {ta : TE} : tUn r ta σ H Q = ta σ H fun x H1 => r x H1 Q := rfl
theorem U {g : Int → V} {i : Int} : rU g (.int i) H Q = Q (g i) H := propext ⟨fun ⟨_, e, q⟩ => by cases e; exact q, fun q => ⟨i, rfl, q⟩⟩
theorem tst {t : TE} : tTest t σ H QB = t σ H (isB QB) := rfl
theorem tb {t : TE} : tB t σ H QB = t σ H (isB QB) := rfl
theorem and {t u : TT} : tAnd t u σ H QB = t σ H fun c H1 => if c = true then u σ H1 QB else QB false H1 := rfl
theorem or {t u : TT} : tOr t u σ H QB = t σ H fun c H1 => if c = true then QB true H1 else u σ H1 QB := rfl
theorem not {t : TT} : tNot t σ H QB = t σ H fun c H1 => QB (!c) H1 := rfl
theorem andV {ta tb : TE} : tAndV ta tb σ H Q = ta σ H (isB fun c H1 => if c = true then tb σ H1 Q else Q (.bl false) H1) := rfl
theorem orV {ta tb : TE} : tOrV ta tb σ H Q = ta σ H (isB fun c H1 => if c = true then Q (.bl true) H1 else tb σ H1 Q) := rfl
theorem notV {ta : TE} : tNotV ta σ H Q = ta σ H (isB fun c H1 => Q (.bl (!c)) H1) := rfl
theorem tif {t : TT} {ta tb : TE} : tIf t ta tb σ H Q = t σ H fun c H1 => if c = true then ta σ H1 Q else tb σ H1 Q := rfl
theorem tifC {t : TT} {a b : Int} : tIfC t a b σ H Q = t σ H fun c H1 => Q (.int (if c = true then a else b)) H1 := rfl
theorem chn {r r' : R2} {ta tb tc : TE} : tChain r r' ta tb tc σ H Q = ta σ H fun x H1 => tb σ H1 fun y H2 => r x y H2 (isB fun k H3 => if k = true then tc σ H3 fun w' H4 => r' y w' H4 Q else Q (.bl false) H3) := rfl
theorem nil : tNil σ H QA = QA [] H := rfl
theorem cons {ta : TE} {tr : TA} : tCons ta tr σ H QA = ta σ H fun x H1 => tr σ H1 fun xs H2 => QA (x :: xs) H2 := rfl
theorem cb {r : List V → Hp → VK → Prop} {t : TA} : tCB r t σ H Q = t σ H fun vs H1 => r vs H1 Q := rfl
theorem call {sp : Sp} {E : XK} {t : TA} : tCall sp [] E t σ H Q = t σ H fun vs H1 => sp vs H1 Q E := by unfold tCall; simp only [List.append_nil]
theorem lst {t : TA} : tLst t σ H Q = t σ H fun xs H1 => xs.length ≤ sizeLine ∧ ∀ p, H1 p = none → Q (.ref p) (upd H1 p (.lst xs)) := rfl
theorem tup {t : TA} : tTup t σ H Q = t σ H fun xs H1 => xs.length ≤ sizeLine ∧ ∀ p, H1 p = none → Q (.ref p) (upd H1 p (.tup xs)) := rfl
def tabQ (kvs : List (Key × V)) (Q : VK) : VK := fun y H1 => ∃ k v, y = kV k ∧ valV kvs k = some v ∧ Q v H1
theorem tabE {kvs : List (Key × V)} {ti : TE} : tTab kvs ti σ H Q = ti σ H (tabQ kvs Q) := rfl
theorem tabI {kvs : List (Key × V)} {i : Int} : tabQ kvs Q (.int i) H = ∃ v, valV kvs (.inl i) = some v ∧ Q v H := propext ⟨fun ⟨k, v, e, l, q⟩ => match k, e, l with
  | .inl _, rfl, l => ⟨v, l, q⟩, fun ⟨v, l, q⟩ => ⟨.inl i, v, rfl, l, q⟩⟩
theorem tabS {kvs : List (Key × V)} {i : Str} : tabQ kvs Q (.str i) H = ∃ v, valV kvs (.inr i) = some v ∧ Q v H := propext ⟨fun ⟨k, v, e, l, q⟩ => match k, e, l with
  | .inr _, rfl, l => ⟨v, l, q⟩, fun ⟨v, l, q⟩ => ⟨.inr i, v, rfl, l, q⟩⟩
theorem ixL {K : PySem.W.Frag} {p : Addr} {i : Int} : rIxL K (.ref p) (.int i) H Q = ∃ xs v, SqL K H p xs ∧ atI xs i = some v ∧ Q v H := propext ⟨fun ⟨_, xs, _, v, e, f, a, b, q⟩ => by cases e; cases f; exact ⟨xs, v, a, b, q⟩, fun ⟨xs, v, a, b, q⟩ => ⟨p, xs, i, v, rfl, rfl, a, b, q⟩⟩
theorem ixT {K : PySem.W.Frag} {p : Addr} {i : Int} : rIxT K (.ref p) (.int i) H Q = ∃ xs v, SqT K H p xs ∧ atI xs i = some v ∧ Q v H := propext ⟨fun ⟨_, xs, _, v, e, f, a, b, q⟩ => by cases e; cases f; exact ⟨xs, v, a, b, q⟩, fun ⟨xs, v, a, b, q⟩ => ⟨p, xs, i, v, rfl, rfl, a, b, q⟩⟩
theorem slc {r : V → Option Int → Option Int → Hp → VK → Prop} {te : TE} {tl th : TO} : tSl r te tl th σ H Q = te σ H fun x H1 => tl σ H1 fun l H2 => th σ H2 fun u H3 => r x l u H3 Q := rfl
def partQ (QO : Option Int → Hp → Prop) : VK := fun x H => ∃ i, x = .int i ∧ QO (some i) H
theorem part {t : TE} {QO : Option Int → Hp → Prop} : tPart t σ H QO = t σ H (partQ QO) := rfl
theorem partI {QO : Option Int → Hp → Prop} {i : Int} : partQ QO (.int i) H = QO (some i) H := propext ⟨fun ⟨_, e, q⟩ => by cases e; exact q, fun q => ⟨i, rfl, q⟩⟩
theorem noPart {QO : Option Int → Hp → Prop} : tNoPart σ H QO = QO none H := rfl
theorem slL {K : PySem.W.Frag} {a : Addr} {lo hi : Option Int} : rSlL K (.ref a) lo hi H Q = ∃ xs, SqL K H a xs ∧ ∀ p, H p = none → Q (.ref p) (upd H p (.lst (cutV xs lo hi))) := propext ⟨fun ⟨_, xs, e, a, q⟩ => by cases e; exact ⟨xs, a, q⟩, fun ⟨xs, b, q⟩ => ⟨a, xs, rfl, b, q⟩⟩
theorem cat {l b : Addr} : rCat (.ref l) (.ref b) H Q = ∃ xs zs, H l = some (.lst xs) ∧ H b = some (.lst zs) ∧ xs.length + zs.length ≤ sizeLine ∧ ∀ p, H p = none → Q (.ref p) (upd H p (.lst (xs ++ zs))) := propext ⟨fun ⟨_, _, xs, zs, e, f, a, b, c, q⟩ => by cases e; cases f; exact ⟨xs, zs, a, b, c, q⟩, fun ⟨xs, zs, a, b', c, q⟩ => ⟨l, b, xs, zs, rfl, rfl, a, b', c, q⟩⟩
def ForP (g : TG) (tb : TS) (D : Ends) (σ : St) (J : It) (H1 : Hp) : Prop := ∃ W : Nat → Nat → St → Hp → Prop, (∃ m, W 0 m σ H1) ∧ ∀ i m σ H, W i m σ H →
  (J.stop i H ∧ D.nx σ H) ∨ (J.go i H ∧ ∃ N : St → Hp → Prop, (∀ σ' H', N σ' H' → ∃ m', m' < m ∧ W (i + 1) m' σ' H') ∧ ∀ x H', J.yld i H x H' → g x σ H' fun σ2 H2 => tb { D with nx := N, ct := N, bk := D.nx } σ2 H2)
theorem frr {wi : TI} {g : TG} {tb : TS} : tFor wi g tb D σ H = wi σ H (ForP g tb D σ) := rfl
def CompP (m : Nat) (g : TG) (tc : TT) (te : TE) (σ : St) (Q : VK) (J : It) (H1 : Hp) : Prop :=
  ∃ W : Nat → Nat → List V → St → Hp → Prop, (∃ k, W 0 k [] (List.replicate m none ++ σ) H1) ∧ ∀ i k vs σ H, W i k vs σ H →
    (J.stop i H ∧ ∀ p, H p = none → Q (.ref p) (upd H p (.lst vs))) ∨
    (J.go i H ∧ vs.length < sizeLine ∧ ∃ N : List V → St → Hp → Prop, (∀ vs' σ' H', N vs' σ' H' → ∃ k', k' < k ∧ W (i + 1) k' vs' σ' H') ∧
      ∀ x H', J.yld i H x H' → g x σ H' fun σ2 H2 => tc σ2 H2 fun b H3 => if b = true then te σ2 H3 fun y H4 => N (vs ++ [y]) σ2 H4 else N vs σ2 H3)
theorem cmp {wi : TI} {m : Nat} {g : TG} {tc : TT} {te : TE} : tComp wi m g tc te σ H Q = wi σ H (CompP m g tc te σ Q) := rfl
def itQ (K : PySem.W.Frag) (R : It → Hp → Prop) : VK := fun x H1 => ∃ a, x = .ref a ∧ (∃ xs, SqL K H1 a xs) ∧ R (Itl K a) H1
theorem itl {K : PySem.W.Frag} {tl : TE} {R : It → Hp → Prop} : iList K tl σ H R = tl σ H (itQ K R) := rfl
theorem itlR {K : PySem.W.Frag} {R : It → Hp → Prop} {a : Addr} : itQ K R (.ref a) H = ((∃ xs, SqL K H a xs) ∧ R (Itl K a) H) := propext ⟨fun ⟨_, e, a, q⟩ => by cases e; exact ⟨a, q⟩, fun ⟨b, q⟩ => ⟨a, rfl, b, q⟩⟩
def ittQ (K : PySem.W.Frag) (R : It → Hp → Prop) : VK := fun x H1 => ∃ a, x = .ref a ∧ (∃ xs, SqT K H1 a xs) ∧ R (Itt K a) H1
theorem itt {K : PySem.W.Frag} {tl : TE} {R : It → Hp → Prop} : iTup K tl σ H R = tl σ H (ittQ K R) := rfl
theorem ittR {K : PySem.W.Frag} {R : It → Hp → Prop} {a : Addr} : ittQ K R (.ref a) H = ((∃ xs, SqT K H a xs) ∧ R (Itt K a) H) := propext ⟨fun ⟨_, e, a, q⟩ => by cases e; exact ⟨a, q⟩, fun ⟨b, q⟩ => ⟨a, rfl, b, q⟩⟩
def rgQ (R : It → Hp → Prop) : List V → Hp → Prop := fun vs H1 => ∃ j : Int, vs = [.int j] ∧ -(2 ^ 62) ≤ j ∧ j < 2 ^ 62 ∧ R (Itr 0 j.toNat) H1
theorem rg {ta : TA} {R : It → Hp → Prop} : iRng1 ta σ H R = ta σ H (rgQ R) := rfl
theorem rgI {R : It → Hp → Prop} {j : Int} : rgQ R [.int j] H = (-(2 ^ 62) ≤ j ∧ j < 2 ^ 62 ∧ R (Itr 0 j.toNat) H) := propext ⟨fun ⟨_, e, a, b, q⟩ => by cases e; exact ⟨a, b, q⟩, fun ⟨a, b, q⟩ => ⟨j, rfl, a, b, q⟩⟩
theorem lenL {K : PySem.W.Frag} {p : Addr} : rLen K [.ref p] H Q = ∃ ys, (SqL K H p ys ∨ SqT K H p ys) ∧ Q (.int ys.length) H := rfl
theorem lenS {K : PySem.W.Frag} {z : Str} : rLen K [.str z] H Q = (z.length ≤ sizeLine ∧ Q (.int z.length) H) := rfl
theorem isiII {K : PySem.W.Frag} {i : Int} : rIsi K [.int i, .ty "int"] H Q = Q (.bl true) H := propext ⟨fun ⟨_, _, e, f, q⟩ => by cases e; rw [kit_int_int] at f; cases f; exact q, fun q => ⟨_, _, rfl, kit_int_int, q⟩⟩
theorem isiIB {K : PySem.W.Frag} {i : Int} : rIsi K [.int i, .ty "bool"] H Q = Q (.bl false) H := propext ⟨fun ⟨_, _, e, f, q⟩ => by cases e; rw [kit_int_bool] at f; cases f; exact q, fun q => ⟨_, _, rfl, kit_int_bool, q⟩⟩
theorem isiTT {K : PySem.W.Frag} {p : Addr} : rIsiT K [.ref p, .ty "tuple"] H Q = ((∃ xs, SqT K H p xs) ∧ Q (.bl true) H) := propext ⟨fun ⟨a, _, f, q⟩ => by rw [kit_tup_tup] at f; cases f; exact ⟨a, q⟩, fun ⟨a, q⟩ => ⟨a, _, kit_tup_tup, q⟩⟩
theorem isiLL {K : PySem.W.Frag} {p : Addr} : rIsiL K [.ref p, .ty "list"] H Q = ((∃ xs, SqL K H p xs) ∧ Q (.bl true) H) := propext ⟨fun ⟨a, _, f, q⟩ => by rw [kit_list_list] at f; cases f; exact ⟨a, q⟩, fun ⟨a, q⟩ => ⟨a, _, kit_list_list, q⟩⟩
theorem sumL {K : PySem.W.Frag} {p : Addr} : rSum K [.ref p] H Q = ∃ ns : List Int, SqL K H p (ns.map V.int) ∧ Q (.int ns.sum) H := rfl
theorem allL {K : PySem.W.Frag} {p : Addr} : rAll K [.ref p] H Q = ∃ bs : List Bool, SqL K H p (bs.map V.bl) ∧ Q (.bl (bs.all id)) H := rfl
theorem intI {i : Int} : rInt1 [.int i] H Q = Q (.int i) H := rfl
theorem intB {k : Bool} : rInt1 [.bl k] H Q = Q (.int (if k = true then 1 else 0)) H := rfl
theorem listOf {K : PySem.W.Frag} {p : Addr} : rListOf K [.ref p] H Q = ∃ ys, (SqL K H p ys ∨ SqT K H p ys) ∧ ∀ l, H l = none → Q (.ref l) (upd H l (.lst ys)) := rfl
theorem strI {i : Int} : rStrI [.int i] H Q = (i.natAbs.log2 < 1920 ∧ Q (.str (toString i)) H) := rfl
theorem bm {K : PySem.W.Frag} {T : String} {r : V → List V → Hp → VK → Prop} {to : TE} {t : TA} : tBM K T r to t σ H Q = to σ H fun x H1 => tyV K T x H1 ∧ t σ H1 fun xs H2 => r x xs H2 Q := rfl
theorem app {l : Addr} {y : V} : rAppend (.ref l) [y] H Q = ∃ xs, H l = some (.lst xs) ∧ xs.length < sizeLine ∧ Q .non (upd H l (.lst (xs ++ [y]))) := propext ⟨fun ⟨_, xs, _, e, f, a, b, q⟩ => by cases e; cases f; exact ⟨xs, a, b, q⟩, fun ⟨xs, a, b, q⟩ => ⟨l, xs, y, rfl, rfl, a, b, q⟩⟩
theorem inSeq {K : PySem.W.Frag} {x : V} {p : Addr} : rIn K false x (.ref p) H Q = ∃ xs, (SqL K H p xs ∨ SqT K H p xs) ∧ flatV x = true ∧ xs.all flatV = true ∧ Q (.bl (inV x xs)) H := propext ⟨fun ⟨_, xs, e, a, b, c, q⟩ => by cases e; exact ⟨xs, a, b, c, q⟩, fun ⟨xs, a, b, c, q⟩ => ⟨p, xs, rfl, a, b, c, q⟩⟩
theorem eqD {K : PySem.W.Frag} {x y : V} : rEqD K false x y H Q = ∃ d e, DatV K H x d ∧ DatV K H y e ∧ SeqAt.shaped d = true ∧ SeqAt.shaped e = true ∧ SeqAt.noMix d e = true ∧ Q (.bl (same d e)) H := rfl
theorem neD {K : PySem.W.Frag} {x y : V} : rEqD K true x y H Q = ∃ d e, DatV K H x d ∧ DatV K H y e ∧ SeqAt.shaped d = true ∧ SeqAt.shaped e = true ∧ SeqAt.noMix d e = true ∧ Q (.bl (!same d e)) H := rfl
theorem sub {to ti : TE} {t : TSet} {v : V} {QS : St → Hp → Prop} : gSub to ti t v σ H QS = to σ H fun o H1 => ti σ H1 fun i H2 => t o i v H2 fun H3 => QS σ H3 := rfl
theorem setL {p : Addr} {k : Int} {v : V} {QH : Hp → Prop} : rSetL (.ref p) (.int k) v H QH = ∃ xs j, H p = some (.lst xs) ∧ ixN xs.length k = some j ∧ QH (upd H p (.lst (xs.set j v))) := propext ⟨fun ⟨_, xs, _, j, e, f, a, b, q⟩ => by cases e; cases f; exact ⟨xs, j, a, b, q⟩, fun ⟨xs, j, a, b, q⟩ => ⟨p, xs, k, j, rfl, rfl, a, b, q⟩⟩
theorem gtup {K : PySem.W.Frag} {n : Nat} {t : TGs} {a : Addr} {QS : St → Hp → Prop} : gTup K n t (.ref a) σ H QS = ∃ xs, SqT K H a xs ∧ xs.length = n ∧ t xs σ H QS := propext ⟨fun ⟨_, xs, e, b, c, q⟩ => by cases e; exact ⟨xs, b, c, q⟩, fun ⟨xs, b, c, q⟩ => ⟨a, xs, rfl, b, c, q⟩⟩
theorem gnil {QS : St → Hp → Prop} : gNil [] σ H QS = QS σ H := propext ⟨fun ⟨_, q⟩ => q, fun q => ⟨rfl, q⟩⟩
theorem gcons {t : TG} {u : TGs} {v : V} {r : List V} {QS : St → Hp → Prop} : gCons t u (v :: r) σ H QS = t v σ H fun σ' H' => u r σ' H' QS := propext ⟨fun ⟨_, _, e, q⟩ => by cases e; exact q, fun q => ⟨v, r, rfl, q⟩⟩
theorem all {QB : Bool → Hp → Prop} : tAll σ H QB = QB true H := rfl
end
end Rd
end L2
set_option Elab.async false
set_option linter.all false
set_option maxRecDepth 100000
set_option maxHeartbeats 4000000
/-! A list unpacked; the rules within a comprehension's block (what hangs on the module's part is the context's own). -/
namespace L2
open PySem PySem.Spec PyProof.Rows
section
variable {prog : Program} {w : World} {A : Around} {E : Value → Shared → Prop} {s : Shared}
theorem draw_list {it l : Addr} {items : Array Value} (hne : l ≠ it) : ∀ (n i : Nat) (s : Shared) (Q : List Value → Shared → Prop), s.heap.IsListIter it l i → s.heap.IsList l items → i + n ≤ items.size →
    (∀ h', h'.IsListIter it l (i + n) → Heap.SameBut it s.heap h' → Q ((items.toList.drop i).take n) { s with heap := h' }) → wpAny (model prog w) A (draw (.ref it) n) Q E s
  | 0, i, s, Q, hit, _, _, hQ => by
    show wpAny _ _ (pure []) Q E s
    exact wpAny_pure (by simpa using hQ s.heap hit (Heap.SameBut.refl ..))
  | n + 1, i, s, Q, hit, hl, hle, hQ => by
    have hlt : i < items.size := by omega
    show wpAny _ _ (pyNext (.ref it) >>= _) Q E s
    refine wpAny_bind (wpAny_pyNext_list_item hit hl (x := items[i]) (by simp [hlt]) fun h₁ hit₁ hs₁ => ?_)
    refine wpAny_bind (wpAny_holding (draw_list hne n (i + 1) _ _ hit₁ (hl.extBut hs₁.extBut hne) (by omega) fun h₂ hit₂ hs₂ => wpAny_pure ?_))
    have hd : items.toList.drop i = items[i] :: items.toList.drop (i + 1) := by simp [List.drop_eq_getElem_cons, hlt]
    have := hQ h₂ (by rw [show i + (n + 1) = i + 1 + n by omega]; exact hit₂) (hs₁.trans hs₂)
    rw [hd, List.take_succ_cons] at this
    exact this
theorem unpackItems_list {l : Addr} {items : Array Value} {Q : List Value → Shared → Prop} (hh : A.handled = none) (hl : s.heap.IsList l items)
    (hQ : ∀ h', Heap.ExtBut s.heap.objs.size s.heap h' → Q items.toList { s with heap := h' }) : wpAny (model prog w) A (unpackItems (.ref l) items.size none) Q E s := by
  have hlt : l ≠ s.heap.objs.size := by obtain ⟨o, ho, _⟩ := hl; exact Nat.ne_of_lt (Heap.lt_size ho)
  unfold unpackItems
  refine wpAny_bind ?_
  · unfold notIterableAtAll
    refine wpAny_bind (wpAny_specialOf hl.typeIs slot_list_iter.lookup ?_)
    refine wpAny_pure ?_
    simp only [Bool.false_eq_true, if_false]
    refine wpAny_bind (wpAny_holding (wpAny_pyIter_list hl ?_))
    refine wpAny_bind (wpAny_holding (draw_list hlt items.size 0 _ _ ⟨_, Heap.get?_push_size _ rfl, rfl, rfl⟩ (hl.push _) (by omega) fun h₁ hit₁ hs₁ => ?_))
    have hall : List.take items.size (List.drop 0 items.toList) = items.toList := by
      rw [List.drop_zero]; exact List.take_of_length_le (by simp)
    rw [hall]
    rw [if_neg (by simp)]
    have hl₁ : h₁.IsList l items := (hl.push _).extBut hs₁.extBut hlt
    refine wpAny_bind (wpAny_holding (wpAny_pyNext_list_end hh hit₁ hl₁ (by simp) fun h₂ he₂ => ?_))
    simp only [Option.isSome_none, Bool.false_eq_true, if_false]
    refine wpAny_pure (hQ h₂ fun b o hb e => he₂ b o hb (hs₁.extBut b o hb (Heap.get?_push_of_some _ e)))
theorem unpack_list {l : Addr} {items : Array Value} {targets : List (Bool × (Value → Sem Unit))} {Q : Unit → Shared → Prop} (hh : A.handled = none) (hl : s.heap.IsList l items)
    (hn : targets.length = items.size) (hstar : targets.findIdx? (·.1) = none)
    (h : ∀ h', Heap.ExtBut s.heap.objs.size s.heap h' → wpAny (model prog w) A (assignInOrder (targets.map (·.2)) items.toList) Q E { s with heap := h' }) :
    wpAny (model prog w) A (unpack (.ref l) targets) Q E s := by
  unfold unpack
  rw [hn, hstar]
  exact wpAny_bind (wpAny_holding (unpackItems_list hh hl h))
end
section
variable {X : Cx} {pos : Pos}
theorem pg_lst {es : List Expr} {k : Nat} {t : TGs} {n : Nat} (hc : X.calm = true) (h : PGs X es t)
    (hn : (assignEach es X.env).length = n := by rfl) (hst : (assignEach es X.env).findIdx? (·.1) = none := by rfl) : PG X (.Tuple es k pos) (gLst X.K n t) := by
  intro pins s σ H v u Q I r hw
  obtain ⟨a, xs, e1, hq, hl, hw⟩ := hw
  subst e1
  cases r
  obtain ⟨its, rv, pl, hz⟩ := I.list hq
  rw [PyProof.Rows.assign_Tuple]
  refine wpAny_bind (wpAny_standAt (unpack_list (I.ok.hd hc) pl.isList (by simp [hn, ← hl, rv.length]) hst fun h' hx => ?_))
  have I1 : Inv X pins σ H { s with heap := h' } := I.kept (t' := s.toks) fun b o e => hx b o (Nat.ne_of_lt (Heap.lt_size e)) e
  exact h pins _ σ H xs _ Q I1 (by simpa using rv) hw
end
/-! ### within a block -/
theorem BlkOk.ofS {X : Cx} {tn M N : List Str} {scope sc : Scope} (hs : X.env.scope = sc) (hN : X.N = N) (hk : scope.kind = .function) (h : blkOk (fun x => sc.names.lookup x) N M scope = true) : BlkOk X tn M scope :=
  BlkOk.of hk (by rw [hN]; have e : X.env.kindOf = fun x => sc.names.lookup x := by rw [← hs]; rfl
                  rw [e]; exact h)
section
variable {X : Cx} {N' : List Str} {scope : Scope} {C : Addr} {s₀ : Shared} {H₀ : Hp} {ex : List Addr}
end
/-! ### a new object, the heap behind it a letter -/
structure New (H : Hp) (p : Addr) (o : HO) (H2 : Hp) : Prop where
  nw : H p = none
  at' : H2 p = some o
  same : Same H H2
  els : ∀ b, b ≠ p → H2 b = H b
theorem New.of {H : Hp} {p : Addr} {o : HO} (h : H p = none) : New H p o (upd H p o) := ⟨h, upd_same, Same.upd h, fun _ hb => upd_ne hb⟩
/-- a tracked list is written -/
structure Wrt (H : Hp) (p : Addr) (o : HO) (H2 : Hp) : Prop where
  at' : H2 p = some o
  els : ∀ b, b ≠ p → H2 b = H b
theorem Wrt.of {H : Hp} {p : Addr} {o : HO} : Wrt H p o (upd H p o) := ⟨upd_same, fun _ hb => upd_ne hb⟩
/-- all but p is as it was -/
def SameX (p : Addr) (H H' : Hp) : Prop := ∀ b o, b ≠ p → H b = some o → H' b = some o
section
variable {X : Cx} {e : Expr} {es : List Expr} {t : TA} {pos : Pos}
def tLstA (t : TA) : TE := fun σ H Q => t σ H fun xs H1 => xs.length ≤ sizeLine ∧ ∀ p H2, New H1 p (.lst xs) H2 → Q (.ref p) H2
def tTupA (t : TA) : TE := fun σ H Q => t σ H fun xs H1 => xs.length ≤ sizeLine ∧ ∀ p H2, New H1 p (.tup xs) H2 → Q (.ref p) H2
theorem pe_lstA (h : PA X es t) : PE X (.List es pos) (tLstA t) := by
  intro pins s σ H Q I hq
  refine wpAny_List_spliced (thn (h pos pins s σ H _ I hq) fun us s1 ⟨xs, H1, I1, r, z, q⟩ => ⟨by rw [← r.length]; exact z, ?_⟩)
  have hf : H1 s1.heap.objs.size = none := I1.hok.fresh (Nat.le_refl _)
  refine ⟨.ref s1.heap.objs.size, upd H1 s1.heap.objs.size (.lst xs), I1.laid (t' := s1.toks) (fun b u e => Heap.get?_push_of_some _ e) (Nat.le_refl _) ?_, rfl, q _ _ (New.of hf)⟩
  exact ⟨z, us, 0, r, Heap.get?_push_size _ rfl⟩
theorem pe_tupA {x1} (h : PA X es t) : PE X (.Tuple es x1 pos) (tTupA t) := by
  intro pins s σ H Q I hq
  refine wpAny_Tuple_spliced (thn (h pos pins s σ H _ I hq) fun us s1 ⟨xs, H1, I1, r, z, q⟩ => ⟨by rw [← r.length]; exact z, ?_⟩)
  have hf : H1 s1.heap.objs.size = none := I1.hok.fresh (Nat.le_refl _)
  refine ⟨.ref s1.heap.objs.size, upd H1 s1.heap.objs.size (.tup xs), I1.laid (t' := s1.toks) (fun b u e => Heap.get?_push_of_some _ e) (Nat.le_refl _) ?_, rfl, q _ _ (New.of hf)⟩
  exact ⟨z, us, r, ⟨_, Heap.get?_push_size _ rfl, rfl, _, rfl⟩⟩
def rCatA : R2 := fun x y H Q => ∃ l b xs zs, x = .ref l ∧ y = .ref b ∧ H l = some (.lst xs) ∧ H b = some (.lst zs) ∧ xs.length + zs.length ≤ sizeLine ∧ ∀ p H2, New H p (.lst (xs ++ zs)) H2 → Q (.ref p) H2
theorem op_catA : OpR X (binaryOp .Add) rCatA := by
  intro pins s σ H x y v u Q I rx ry h
  obtain ⟨l, b, xs, zs, e1, e2, a, b', c, q⟩ := h
  exact op_cat pins s σ H x y v u Q I rx ry ⟨l, b, xs, zs, e1, e2, a, b', c, fun p hp => q p _ (New.of hp)⟩
def rRepA : R2 := fun x y H Q => ∃ l k xs, x = .ref l ∧ y = .int k ∧ H l = some (.lst xs) ∧ -(2 ^ 63) ≤ k ∧ k < 2 ^ 63 ∧ xs.length * k.toNat ≤ sizeLine ∧ ∀ p H2, New H p (.lst (List.replicate k.toNat xs).flatten) H2 → Q (.ref p) H2
theorem op_repA : OpR X (binaryOp .Mult) rRepA := by
  intro pins s σ H x y v u Q I rx ry h
  obtain ⟨l, k, xs, e1, e2, a, b, c, d, q⟩ := h
  exact op_rep pins s σ H x y v u Q I rx ry ⟨l, k, xs, e1, e2, a, b, c, d, fun p hp => q p _ (New.of hp)⟩
def rSlLA (K : PySem.W.Frag) : V → Option Int → Option Int → Hp → VK → Prop := fun x lo hi H Q => ∃ a xs, x = .ref a ∧ SqL K H a xs ∧ ∀ p H2, New H p (.lst (cutV xs lo hi)) H2 → Q (.ref p) H2
theorem sl_listA : SlR X (rSlLA X.K) := by
  intro pins s σ H x v vl vu lo hi sl Q I rx hs pl pu h
  obtain ⟨a, xs, e, hx, q⟩ := h
  exact sl_list pins s σ H x v vl vu lo hi sl Q I rx hs pl pu ⟨a, xs, e, hx, fun p hp => q p _ (New.of hp)⟩
def rListOfA (K : PySem.W.Frag) : List V → Hp → VK → Prop
  | [.ref p], H, Q => ∃ ys, (SqL K H p ys ∨ SqT K H p ys) ∧ ∀ l H2, New H l (.lst ys) H2 → Q (.ref l) H2
  | _, _, _ => False
theorem call_listA : CallR X (.type "list") (rListOfA X.K) := by
  intro pins s σ H xs us Q I r h
  match xs, h with
  | [.ref p], ⟨ys, hq, q⟩ => exact call_list_of pins s σ H _ us Q I r ⟨p, ys, rfl, hq, fun l hl => q l _ (New.of hl)⟩
def rAppendA : V → List V → Hp → VK → Prop
  | .ref l, [y], H, Q => ∃ xs, H l = some (.lst xs) ∧ xs.length < sizeLine ∧ ∀ H2, Wrt H l (.lst (xs ++ [y])) H2 → Q .non H2
  | _, _, _, _ => False
theorem mt_appendA : MtM X "list.append" rAppendA := by
  intro pins s σ H x vs v us Q I rx rv h
  match x, vs, h with
  | .ref l, [y], ⟨xs, a, b, q⟩ => exact mt_append pins s σ H _ _ v us Q I rx rv ⟨l, xs, y, rfl, rfl, a, b, q _ Wrt.of⟩
def rSetA : V → V → V → Hp → (Hp → Prop) → Prop
  | .ref p, .int k, v, H, Q => ∃ xs j, H p = some (.lst xs) ∧ ixN xs.length k = some j ∧ ∀ H2, Wrt H p (.lst (xs.set j v)) H2 → Q H2
  | _, _, _, _, _ => False
theorem set_listA : PSet X rSetA := by
  intro pins s σ H o i v ov iv u Q I ro ri rv h
  match o, i, h with
  | .ref p, .int k, ⟨xs, j, a, b, q⟩ => exact set_list pins s σ H _ _ v ov iv u Q I ro ri rv ⟨p, xs, k, j, rfl, rfl, a, b, q _ Wrt.of⟩
variable {N' : List Str} {scope : Scope} {C : Addr} {s₀ : Shared} {H₀ : Hp} {ex : List Addr}
end
section
variable {g : TG} {tc : TT} {te : TE} {Q : VK} {σ : St} {H : Hp} {m : Nat}
theorem compA_list {K : PySem.W.Frag} {a : Addr} (xs : List V) (Pv : Nat → List V → St → Hp → Prop) (h0 : Pv 0 [] (List.replicate m none ++ σ) H) (hl : ∀ i vs σ H, i ≤ xs.length → Pv i vs σ H → SqL K H a xs) (hz : xs.length ≤ sizeLine) (hn : ∀ i vs σ H, Pv i vs σ H → vs.length ≤ i)
    (hs : ∀ i x vs σ H, xs[i]? = some x → Pv i vs σ H → g x σ H fun σ2 H2 => tc σ2 H2 fun b H3 => if b = true then te σ2 H3 fun y H4 => Pv (i + 1) (vs ++ [y]) σ2 H4 else Pv (i + 1) vs σ2 H3)
    (hd : ∀ vs σ H, Pv xs.length vs σ H → ∀ p H2, New H p (.lst vs) H2 → Q (.ref p) H2) : Rd.CompP m g tc te σ Q (Itl K a) H :=
  comp_list (xs := xs) Pv h0 hl hz hn hs fun vs σ H pv p hp => hd vs σ H pv p _ (New.of hp)
theorem compA_tup {K : PySem.W.Frag} {a : Addr} (xs : List V) (Pv : Nat → List V → St → Hp → Prop) (h0 : Pv 0 [] (List.replicate m none ++ σ) H) (hl : ∀ i vs σ H, i ≤ xs.length → Pv i vs σ H → SqT K H a xs) (hz : xs.length ≤ sizeLine) (hn : ∀ i vs σ H, Pv i vs σ H → vs.length ≤ i)
    (hs : ∀ i x vs σ H, xs[i]? = some x → Pv i vs σ H → g x σ H fun σ2 H2 => tc σ2 H2 fun b H3 => if b = true then te σ2 H3 fun y H4 => Pv (i + 1) (vs ++ [y]) σ2 H4 else Pv (i + 1) vs σ2 H3)
    (hd : ∀ vs σ H, Pv xs.length vs σ H → ∀ p H2, New H p (.lst vs) H2 → Q (.ref p) H2) : Rd.CompP m g tc te σ Q (Itt K a) H :=
  comp_tup (xs := xs) Pv h0 hl hz hn hs fun vs σ H pv p hp => hd vs σ H pv p _ (New.of hp)
theorem compA_range {lo : Int} {n : Nat} (Pv : Nat → List V → St → Hp → Prop) (h0 : Pv 0 [] (List.replicate m none ++ σ) H) (hz : n ≤ sizeLine) (hn : ∀ i vs σ H, Pv i vs σ H → vs.length ≤ i)
    (hs : ∀ i vs σ H, i < n → Pv i vs σ H → g (.int (lo + i)) σ H fun σ2 H2 => tc σ2 H2 fun b H3 => if b = true then te σ2 H3 fun y H4 => Pv (i + 1) (vs ++ [y]) σ2 H4 else Pv (i + 1) vs σ2 H3)
    (hd : ∀ vs σ H, Pv n vs σ H → ∀ p H2, New H p (.lst vs) H2 → Q (.ref p) H2) : Rd.CompP m g tc te σ Q (Itr lo n) H :=
  comp_range Pv h0 hz hn hs fun vs σ H pv p hp => hd vs σ H pv p _ (New.of hp)
end
theorem shL_ints (l : List Int) : SeqAt.shaped (.list (l.map PyData.int)) = true := by
  simp [SeqAt.shaped, PyData.canLay0, PyData.depth, PySem.W.ke_canLayAll0, PySem.W.ke_depthAll]
theorem mixInts : ∀ l m : List Int, SeqAt.noMixAll (l.map PyData.int) (m.map PyData.int) = true
  | [], [] => by simp [SeqAt.noMixAll]
  | [], _ :: _ => by simp [SeqAt.noMixAll]
  | _ :: _, [] => by simp [SeqAt.noMixAll]
  | _ :: r, _ :: q => by simp [SeqAt.noMixAll, SeqAt.noMix, mixInts r q]
theorem mixL_ints (l m : List Int) : SeqAt.noMix (.list (l.map PyData.int)) (.list (m.map PyData.int)) = true := by simp only [SeqAt.noMix]; exact mixInts l m
/-- what was there ahead of the new one stays when the new one is written -/
theorem Wrt.same {H H1 H2 : Hp} {p : Addr} {o : HO} (w : Wrt H1 p o H2) (s : Same H H1) (h : H p = none) : Same H H2 := fun b u e => by
  rw [w.els b (ne_of_none e h)]
  exact s b u e
theorem datInts {K : PySem.W.Frag} {H : Hp} : ∀ l : List Int, DatVs K H (l.map V.int) (l.map PyData.int)
  | [] => .nil
  | x :: l => .cons (.int x) (datInts l)
namespace Rd
section
variable {σ : St} {H : Hp} {Q : VK}
theorem lstA {t : TA} : tLstA t σ H Q = t σ H fun xs H1 => xs.length ≤ sizeLine ∧ ∀ p H2, New H1 p (.lst xs) H2 → Q (.ref p) H2 := rfl
theorem tupA {t : TA} : tTupA t σ H Q = t σ H fun xs H1 => xs.length ≤ sizeLine ∧ ∀ p H2, New H1 p (.tup xs) H2 → Q (.ref p) H2 := rfl
theorem catA {l b : Addr} : rCatA (.ref l) (.ref b) H Q = ∃ xs zs, H l = some (.lst xs) ∧ H b = some (.lst zs) ∧ xs.length + zs.length ≤ sizeLine ∧ ∀ p H2, New H p (.lst (xs ++ zs)) H2 → Q (.ref p) H2 := propext ⟨fun ⟨_, _, xs, zs, e, f, a, b, c, q⟩ => by cases e; cases f; exact ⟨xs, zs, a, b, c, q⟩, fun ⟨xs, zs, a, b', c, q⟩ => ⟨l, b, xs, zs, rfl, rfl, a, b', c, q⟩⟩
theorem repA {l : Addr} {k : Int} : rRepA (.ref l) (.int k) H Q = ∃ xs, H l = some (.lst xs) ∧ -(2 ^ 63) ≤ k ∧ k < 2 ^ 63 ∧ xs.length * k.toNat ≤ sizeLine ∧ ∀ p H2, New H p (.lst (List.replicate k.toNat xs).flatten) H2 → Q (.ref p) H2 := propext ⟨fun ⟨_, _, xs, e, f, a, b, c, d, q⟩ => by cases e; cases f; exact ⟨xs, a, b, c, d, q⟩, fun ⟨xs, a, b, c, d, q⟩ => ⟨l, k, xs, rfl, rfl, a, b, c, d, q⟩⟩
theorem slLA {K : PySem.W.Frag} {a : Addr} {lo hi : Option Int} : rSlLA K (.ref a) lo hi H Q = ∃ xs, SqL K H a xs ∧ ∀ p H2, New H p (.lst (cutV xs lo hi)) H2 → Q (.ref p) H2 := propext ⟨fun ⟨_, xs, e, a, q⟩ => by cases e; exact ⟨xs, a, q⟩, fun ⟨xs, b, q⟩ => ⟨a, xs, rfl, b, q⟩⟩
theorem listA {K : PySem.W.Frag} {p : Addr} : rListOfA K [.ref p] H Q = ∃ ys, (SqL K H p ys ∨ SqT K H p ys) ∧ ∀ l H2, New H l (.lst ys) H2 → Q (.ref l) H2 := rfl
theorem appA {l : Addr} {y : V} : rAppendA (.ref l) [y] H Q = ∃ xs, H l = some (.lst xs) ∧ xs.length < sizeLine ∧ ∀ H2, Wrt H l (.lst (xs ++ [y])) H2 → Q .non H2 := rfl
theorem setA {p : Addr} {k : Int} {v : V} {QH : Hp → Prop} : rSetA (.ref p) (.int k) v H QH = ∃ xs j, H p = some (.lst xs) ∧ ixN xs.length k = some j ∧ ∀ H2, Wrt H p (.lst (xs.set j v)) H2 → QH H2 := rfl
end
theorem glst {K : PySem.W.Frag} {n : Nat} {t : TGs} {a : Addr} {σ : St} {H : Hp} {QS : St → Hp → Prop} : gLst K n t (.ref a) σ H QS = ∃ xs, SqL K H a xs ∧ xs.length = n ∧ t xs σ H QS := propext ⟨fun ⟨_, xs, e, b, c, q⟩ => by cases e; exact ⟨xs, b, c, q⟩, fun ⟨xs, b, c, q⟩ => ⟨a, xs, rfl, b, c, q⟩⟩
theorem cxKn {X : Cx} : X.nox.K = X.K := rfl
end Rd
end L2
set_option Elab.async false
set_option linter.all false
set_option maxRecDepth 100000
set_option maxHeartbeats 4000000
/-! COMPREHENSIONS of one name and no test, by what holds of each item; lists and tuples that stay. -/
namespace L2
open PySem PySem.Spec PyProof.Rows
theorem push_all {R : Nat → V → Prop} {vs : List V} {y : V} {i : Nat} (hl : vs.length = i) (hr : ∀ j v, vs[j]? = some v → R j v) (h : R i y) : ∀ j v, (vs ++ [y])[j]? = some v → R j v := by
  intro j v e
  by_cases hj : j < vs.length
  · rw [List.getElem?_append_left hj] at e
    exact hr j v e
  · rw [List.getElem?_append_right (by omega)] at e
    have hz : j - vs.length = 0 := by
      have := (List.getElem?_eq_some_iff.mp e).1
      simp at this
      omega
    rw [hz] at e
    have e' : y = v := by simpa using e
    have hi : j = i := by omega
    rw [← e', hi]
    exact h
section
variable {te : TE} {Q : VK} {σ : St} {H : Hp}
theorem compR_range {lo : Int} {n : Nat} (R : Nat → V → Prop) (hz : n ≤ sizeLine)
    (hs : ∀ (i : Nat) (H' : Hp) (q : VK), i < n → Same H H' → (∀ y H4, Same H' H4 → R i y → q y H4) → te (some (.int (lo + i)) :: σ) H' q)
    (hd : ∀ vs p H1 H2, vs.length = n → (∀ j v, vs[j]? = some v → R j v) → Same H H1 → New H1 p (.lst vs) H2 → Q (.ref p) H2) :
    Rd.CompP 1 (gName 0) tAll te σ Q (Itr lo n) H := by
  refine compA_range (fun i vs σ' H' => vs.length = i ∧ (∀ j v, vs[j]? = some v → R j v) ∧ (∃ b, σ' = b :: σ) ∧ Same H H') ⟨rfl, by simp, ⟨none, rfl⟩, Same.refl _⟩ hz (fun i vs σ' H' h => Nat.le_of_eq h.1) ?_ ?_
  · rintro i vs σ' H' hi ⟨hl, hr, ⟨b, rfl⟩, s⟩
    rw [Rd.g0, Rd.all, if_pos rfl]
    exact (hs i H' _ hi s fun y H4 s4 r => ⟨by simp [hl], push_all hl hr r, ⟨_, rfl⟩, s.trans s4⟩)
  · rintro vs σ' H' ⟨hl, hr, _, s⟩ p H2 n2
    exact hd vs p H' H2 hl hr s n2
theorem compR_list {K : PySem.W.Frag} {a : Addr} (xs : List V) (R : Nat → V → Prop) (hq : SqL K H a xs) (hz : xs.length ≤ sizeLine)
    (hs : ∀ (i : Nat) (x : V) (H' : Hp) (q : VK), xs[i]? = some x → Same H H' → (∀ y H4, Same H' H4 → R i y → q y H4) → te (some x :: σ) H' q)
    (hd : ∀ vs p H1 H2, vs.length = xs.length → (∀ j v, vs[j]? = some v → R j v) → Same H H1 → New H1 p (.lst vs) H2 → Q (.ref p) H2) :
    Rd.CompP 1 (gName 0) tAll te σ Q (Itl K a) H := by
  refine compA_list xs (fun i vs σ' H' => vs.length = i ∧ (∀ j v, vs[j]? = some v → R j v) ∧ (∃ b, σ' = b :: σ) ∧ Same H H') ⟨rfl, by simp, ⟨none, rfl⟩, Same.refl _⟩ (fun i vs σ' H' _ h => h.2.2.2.seq hq) hz (fun i vs σ' H' h => Nat.le_of_eq h.1) ?_ ?_
  · rintro i x vs σ' H' hi ⟨hl, hr, ⟨b, rfl⟩, s⟩
    rw [Rd.g0, Rd.all, if_pos rfl]
    exact (hs i x H' _ hi s fun y H4 s4 r => ⟨by simp [hl], push_all hl hr r, ⟨_, rfl⟩, s.trans s4⟩)
  · rintro vs σ' H' ⟨hl, hr, _, s⟩ p H2 n2
    exact hd vs p H' H2 hl hr s n2
theorem compR_tup {K : PySem.W.Frag} {a : Addr} (xs : List V) (R : Nat → V → Prop) (hq : SqT K H a xs) (hz : xs.length ≤ sizeLine)
    (hs : ∀ (i : Nat) (x : V) (H' : Hp) (q : VK), xs[i]? = some x → Same H H' → (∀ y H4, Same H' H4 → R i y → q y H4) → te (some x :: σ) H' q)
    (hd : ∀ vs p H1 H2, vs.length = xs.length → (∀ j v, vs[j]? = some v → R j v) → Same H H1 → New H1 p (.lst vs) H2 → Q (.ref p) H2) :
    Rd.CompP 1 (gName 0) tAll te σ Q (Itt K a) H := by
  refine compA_tup xs (fun i vs σ' H' => vs.length = i ∧ (∀ j v, vs[j]? = some v → R j v) ∧ (∃ b, σ' = b :: σ) ∧ Same H H') ⟨rfl, by simp, ⟨none, rfl⟩, Same.refl _⟩ (fun i vs σ' H' _ h => h.2.2.2.seqT hq) hz (fun i vs σ' H' h => Nat.le_of_eq h.1) ?_ ?_
  · rintro i x vs σ' H' hi ⟨hl, hr, ⟨b, rfl⟩, s⟩
    rw [Rd.g0, Rd.all, if_pos rfl]
    exact (hs i x H' _ hi s fun y H4 s4 r => ⟨by simp [hl], push_all hl hr r, ⟨_, rfl⟩, s.trans s4⟩)
  · rintro vs σ' H' ⟨hl, hr, _, s⟩ p H2 n2
    exact hd vs p H' H2 hl hr s n2
end
theorem list_ints {n : Nat} {vs : List V} {R : Nat → Int → Prop} (hl : vs.length = n) (h : ∀ (j : Nat) (v : V), vs[j]? = some v → ∃ i : Int, v = .int i ∧ R j i) : ∃ ns : List Int, vs = ns.map V.int ∧ ns.length = n ∧ ∀ (j : Nat) (i : Int), ns[j]? = some i → R j i := by
  induction vs generalizing n R with
  | nil => exact ⟨[], rfl, hl, by simp⟩
  | cons v vs ih =>
    obtain ⟨i, rfl, r0⟩ := h 0 v rfl
    obtain ⟨ns, e, l, hr⟩ := ih (n := vs.length) (R := fun j => R (j + 1)) rfl fun j v hv => h (j + 1) v (by simpa using hv)
    refine ⟨i :: ns, by simp [e], by simp [l] at hl ⊢; omega, fun j k hj => ?_⟩
    cases j with
    | zero => simp at hj; rw [← hj]; exact r0
    | succ j => exact hr j k (by simpa using hj)
/-! lists and tuples through the heaps that follow one another -/
section
variable {K : PySem.W.Frag} {H H1 H2 : Hp} {p q : Addr} {o : HO} {xs : List V}
theorem sq_at (n : New H p (.lst xs) H2) : SqL K H2 p xs := SqL.of n.at'
theorem sq_new (n : New H q o H2) (h : SqL K H p xs) : SqL K H2 p xs := n.same.seq h
theorem sq_same (n : Same H H2) (h : SqL K H p xs) : SqL K H2 p xs := n.seq h
theorem st_at (n : New H p (.tup xs) H2) : SqT K H2 p xs := SqT.of n.at'
theorem st_new (n : New H q o H2) (h : SqT K H p xs) : SqT K H2 p xs := n.same.seqT h
theorem st_same (n : Same H H2) (h : SqT K H p xs) : SqT K H2 p xs := n.seqT h
theorem sm_new (n : New H1 q o H2) (h : Same H H1) : Same H H2 := h.trans n.same
theorem sm_same (n : Same H1 H2) (h : Same H H1) : Same H H2 := h.trans n
theorem at_new (n : New H q o H2) {u : HO} (h : H p = some u) : H2 p = some u := n.same _ _ h
theorem at_same (n : Same H H2) {u : HO} (h : H p = some u) : H2 p = some u := n _ _ h
theorem at_at (n : New H p o H2) : H2 p = some o := n.at'
end
end L2
set_option Elab.async false
set_option linter.all false
set_option maxRecDepth 100000
set_option maxHeartbeats 4000000
/-! OBJECTS: a method by the class that the instance has, making an instance, isinstance with an own class; texts joined and split. -/
namespace L2
open PySem PySem.Spec PyProof.Rows
/-- a method of the class at C, by its promise -/
structure MCal (P : Program) (w : World) (K : PySem.W.Frag) (mg : Str → Option Value) (base : Heap) (C : Addr) (m : Str) (k : Nat) (sp : Sp) : Prop where
  cl : Cls K C
  ex : ∃ (f : Addr) (fd : FuncData) (ps : List Str), FnOk P w K mg base CX0 k f fd ps sp ∧ Meth K C m f ∧ Binds K fd ps []
def tMethC (P : Program) (w : World) (K : PySem.W.Frag) (mg : Str → Option Value) (base : Heap) (m : Str) (k : Nat) (ta : TE) (t : TA) : TE := fun σ H Q => ta σ H fun x H1 =>
  ∃ a C dx fs sp, x = .ref a ∧ H1 a = some (.ins C dx fs) ∧ fs.lookup m = none ∧ MCal P w K mg base C m k sp ∧ t σ H1 fun vs H2 => sp (x :: vs) H2 Q E0
section
variable {X : Cx} {k : Nat} {m x : Str} {o e : Expr} {es : List Expr} {ta : TE} {t : TA} {p pos apos : Pos} {C : Addr} {sp : Sp}
theorem pe_methC {pl : Sem Bool} (he : PE X o ta) (hr : Room k X.A) (ha : PA X (e :: es) t)
    (hst : starEach (e :: es) X.env = (false, eval e X.env) :: starEach es X.env := by rfl) (hpl : (backTo pos (starEach es X.env)).any (·.1) = false := by rfl)
    (ht : eval (.Call (.Attribute o m apos) (e :: es) [] pos) X.env = (do
      let ov ← eval o X.env
      standAt apos.atName
      let (f, first) ← holding [ov] (getMethod ov m pl)
      callWith pos f first (backTo pos (starEach (e :: es) X.env)) (backToKw pos (keywordEach [] X.env))) := by rfl) :
    PE X (.Call (.Attribute o m apos) (e :: es) [] pos) (tMethC X.prog X.w X.K X.mg X.base m k ta t) := by
  intro pins s σ H Q I h
  refine PySem.W.methodCall_KW (pl := pl) (thn (he pins s σ H _ I h) fun u s1 hx => ?_) ht
  obtain ⟨x, H1, I1, rx, a, C, dx, fs, sp, ex, ea, l, ⟨c, f, fd, ps, F, hm, hb⟩, q⟩ := hx
  subst ex
  obtain rfl : u = Value.ref a := rx
  refine getmeth_ok I1 ea c hm l ?_
  refine PySem.W.callWith_K (first := [.ref a]) (h₀ := X.base) I.ok.mod.kin hm.kp (thn (ha pos pins s1 σ H1 _ I1 q) fun us s2 hz => ?_) hst hpl
  obtain ⟨vs, H2, I2, r, q2⟩ := hz
  refine ⟨I2.kIn, ?_⟩
  exact run_fn (us := .ref a :: us) (vs := .ref a :: vs) (dvs := []) F hr hb .nil pass0 I2 (.cons rfl r) (by rw [List.append_nil]; exact q2)
theorem pe_methC0 {pl : Sem Bool} (he : PE X o ta) (hr : Room k X.A)
    (ht : eval (.Call (.Attribute o m apos) [] [] pos) X.env = (do
      let ov ← eval o X.env
      standAt apos.atName
      let (f, first) ← holding [ov] (getMethod ov m pl)
      callWith pos f first (backTo pos (starEach [] X.env)) (backToKw pos (keywordEach [] X.env))) := by rfl) :
    PE X (.Call (.Attribute o m apos) [] [] pos) (tMethC X.prog X.w X.K X.mg X.base m k ta tNil) := by
  intro pins s σ H Q I h
  refine PySem.W.methodCall_KW (pl := pl) (thn (he pins s σ H _ I h) fun u s1 hx => ?_) ht
  obtain ⟨x, H1, I1, rx, a, C, dx, fs, sp, ex, ea, l, ⟨c, f, fd, ps, F, hm, hb⟩, q⟩ := hx
  subst ex
  obtain rfl : u = Value.ref a := rx
  refine getmeth_ok I1 ea c hm l ?_
  exact PySem.W.callWith_K0 (first := [.ref a]) I1.kIn hm.kp (run_fn (us := [.ref a]) (vs := [.ref a]) (dvs := []) F hr hb .nil pass0 I1 (.cons rfl .nil) (by rw [List.append_nil]; exact q))
/-- a new instance, the heap behind it a letter -/
structure NewI (H : Hp) (x dx C : Addr) (H2 : Hp) : Prop where
  nx : H x = none
  ndx : H dx = none
  ne : dx ≠ x
  at' : H2 x = some (.ins C dx [])
  same : Same H H2
  els : ∀ b, b ≠ x → b ≠ dx → H2 b = H b
theorem NewI.of {H : Hp} {x dx C : Addr} (h1 : H x = none) (h2 : H dx = none) (ne : dx ≠ x) : NewI H x dx C (upd (upd H dx (.own x)) x (.ins C dx [])) :=
  ⟨h1, h2, ne, upd_same, fun b u e => by rw [upd_ne (ne_of_none e h1), upd_ne (ne_of_none e h2)]; exact e, fun b a c => by rw [upd_ne a, upd_ne c]⟩
/-- a class that is made, by its __init__'s promise -/
structure KCal (P : Program) (w : World) (K : PySem.W.Frag) (mg : Str → Option Value) (base : Heap) (x : Str) (C : Addr) (k : Nat) (sp : Sp) : Prop where
  ex : ∃ (f : Addr) (fd : FuncData) (ps : List Str), Mk K C f ∧ FnOk P w K mg base CX0 k f fd ps sp ∧ mg x = some (.ref C) ∧ Binds K fd ps []
def tMakeC (C : Addr) (sp : Sp) (t : TA) : TE := fun σ H Q => t σ H fun vs H1 => ∀ x dx H2, NewI H1 x dx C H2 → sp (.ref x :: vs) H2 (fun v H3 => v = .non ∧ Q (.ref x) H3) E0
theorem pe_makeC (c : KCal X.prog X.w X.K X.mg X.base x C k sp) (hr : Room (k + 1) X.A) (ha : PA X (e :: es) t) (hg : Gl X x := by rfl) (hdb : (x == ("__debug__" : Str)) = false := by decide)
    (he : starEach (e :: es) X.env = (false, eval e X.env) :: starEach es X.env := by rfl) (hpl : (backTo pos (starEach es X.env)).any (·.1) = false := by rfl) :
    PE X (.Call (.Name x p) (e :: es) [] pos) (tMakeC C sp t) := by
  obtain ⟨f, fd, ps, M, F, hm, hb⟩ := c.ex
  intro pins s σ H Q I h
  refine wpAny_Call_Name_kw (ld_glob I hg hm ?_ hdb)
  refine PySem.W.callWith_K (h₀ := X.base) I.ok.mod.kin M.kp (thn (ha pos pins s σ H _ I h) fun us s1 ⟨vs, H1, I1, r, q⟩ => ⟨I1.kIn, ?_⟩) he hpl
  exact run_make (dvs := []) M F hr hb .nil pass0 I1 r fun x dx h1 h2 ne => by rw [List.append_nil]; exact q x dx _ (NewI.of h1 h2 ne)
/-- o.f = v, the heap behind it a letter -/
def sFldA (K : PySem.W.Frag) (ta tv : TE) (f : Str) : TS := fun D σ H => tv σ H fun y H1 => ta σ H1 fun x H2 => ∃ a C dx fs, x = .ref a ∧ H2 a = some (.ins C dx fs) ∧ Cls K C ∧ NoAttr K C f ∧ fs.length < 1000 ∧
  ∀ H3, Wrt H2 a (.ins C dx (putF f y fs)) H3 → D.nx σ H3
theorem ps_fldA {value : Expr} {f : Str} {pos' : Pos} {tv : TE} (ha : PE X o ta) (hv : PE X value tv) (hs : swapsWith value (some (.Attribute o f pos')) pos.line X.env = pure false) : PS X (.Assign [.Attribute o f pos'] value pos) (sFldA X.K ta tv f) := by
  intro pins s σ H D I h
  refine plainObj_wpAny_Assign_Attribute (thn (hv pins s σ H _ I h) fun u s1 hx => ?_) hs
  obtain ⟨y, H1, I1, ry, q⟩ := hx
  refine thn (ha pins s1 σ H1 _ I1 q) fun ov s2 hx => ?_
  obtain ⟨x, H2, I2, rx, a, C, dx, fs, ex, ea, c, n, l, q2⟩ := hx
  subst ex
  obtain rfl : ov = Value.ref a := rx
  exact setattr_ok I2 ea c n l ry fun s3 I3 => ⟨σ, _, I3, q2 _ Wrt.of⟩
/-- what isinstance asks of an own class -/
structure InsOk (K : PySem.W.Frag) (C : Addr) : Prop where
  cl : Cls K C
  ha : PySem.W.findIn K (.ref C) "__class__" = some (some (.builtin "object.__class__"))
  hn : PySem.W.specialIn K (.builtin "object.__class__") "__get__" = some (some (.builtin "getset_descriptor.__get__"))
  htk : PySem.W.takesIn K (.builtin "object.__class__") = some true
  hm : PySem.W.mroIn K C (.type "object") = some true
/-- x.split(y), y not empty -/
def rSplit : V → List V → Hp → VK → Prop
  | .str z, [.str y], H, Q => z.length ≤ sizeLine ∧ (y.length == 0) = false ∧ (Builtin.Str.partsBetween z (Builtin.Str.occurrences z y 0 z.length (z.length + 1)) y.length).length ≤ sizeLine ∧
      ∀ p H2, New H p (.lst ((Txt.split z y).map V.str)) H2 → Q (.ref p) H2
  | _, _, _, _ => False
end
namespace Rd
section
variable {σ : St} {H : Hp} {Q : VK} {D : Ends}
def methQ (P : Program) (w : World) (K : PySem.W.Frag) (mg : Str → Option Value) (base : Heap) (m : Str) (k : Nat) (t : TA) (σ : St) (Q : VK) : VK := fun x H1 =>
  ∃ a C dx fs sp, x = .ref a ∧ H1 a = some (.ins C dx fs) ∧ fs.lookup m = none ∧ MCal P w K mg base C m k sp ∧ t σ H1 fun vs H2 => sp (x :: vs) H2 Q E0
theorem meC {P : Program} {w : World} {K : PySem.W.Frag} {mg : Str → Option Value} {base : Heap} {m : Str} {k : Nat} {ta : TE} {t : TA} : tMethC P w K mg base m k ta t σ H Q = ta σ H (methQ P w K mg base m k t σ Q) := rfl
theorem meQ {P : Program} {w : World} {K : PySem.W.Frag} {mg : Str → Option Value} {base : Heap} {m : Str} {k : Nat} {t : TA} {a : Addr} : methQ P w K mg base m k t σ Q (.ref a) H =
    ∃ C dx fs sp, H a = some (.ins C dx fs) ∧ fs.lookup m = none ∧ MCal P w K mg base C m k sp ∧ t σ H fun vs H2 => sp (.ref a :: vs) H2 Q E0 :=
  propext ⟨fun ⟨_, C, dx, fs, sp, e, a1, a2, a3, q⟩ => by cases e; exact ⟨C, dx, fs, sp, a1, a2, a3, q⟩, fun ⟨C, dx, fs, sp, a1, a2, a3, q⟩ => ⟨a, C, dx, fs, sp, rfl, a1, a2, a3, q⟩⟩
theorem mkC {C : Addr} {sp : Sp} {t : TA} : tMakeC C sp t σ H Q = t σ H fun vs H1 => ∀ x dx H2, NewI H1 x dx C H2 → sp (.ref x :: vs) H2 (fun v H3 => v = .non ∧ Q (.ref x) H3) E0 := rfl
def fldQ (K : PySem.W.Frag) (f : Str) (y : V) (D : Ends) (σ : St) : VK := fun x H2 => ∃ a C dx fs, x = .ref a ∧ H2 a = some (.ins C dx fs) ∧ Cls K C ∧ NoAttr K C f ∧ fs.length < 1000 ∧
  ∀ H3, Wrt H2 a (.ins C dx (putF f y fs)) H3 → D.nx σ H3
theorem sfA {K : PySem.W.Frag} {ta tv : TE} {f : Str} : sFldA K ta tv f D σ H = tv σ H fun y H1 => ta σ H1 (fldQ K f y D σ) := rfl
theorem sfQ {K : PySem.W.Frag} {f : Str} {y : V} {a : Addr} : fldQ K f y D σ (.ref a) H = ∃ C dx fs, H a = some (.ins C dx fs) ∧ Cls K C ∧ NoAttr K C f ∧ fs.length < 1000 ∧ ∀ H3, Wrt H a (.ins C dx (putF f y fs)) H3 → D.nx σ H3 :=
  propext ⟨fun ⟨_, C, dx, fs, e, q⟩ => by cases e; exact ⟨C, dx, fs, q⟩, fun ⟨C, dx, fs, q⟩ => ⟨a, C, dx, fs, rfl, q⟩⟩
def fdQ (K : PySem.W.Frag) (f : Str) (Q : VK) : VK := fun x H1 => ∃ a C dx fs v, x = .ref a ∧ H1 a = some (.ins C dx fs) ∧ Cls K C ∧ NoAttr K C f ∧ fs.lookup f = some v ∧ Q v H1
theorem fdE {K : PySem.W.Frag} {ta : TE} {f : Str} : tFld K ta f σ H Q = ta σ H (fdQ K f Q) := rfl
theorem fdR {K : PySem.W.Frag} {f : Str} {a : Addr} : fdQ K f Q (.ref a) H = ∃ C dx fs v, H a = some (.ins C dx fs) ∧ Cls K C ∧ NoAttr K C f ∧ fs.lookup f = some v ∧ Q v H :=
  propext ⟨fun ⟨_, C, dx, fs, v, e, q⟩ => by cases e; exact ⟨C, dx, fs, v, q⟩, fun ⟨C, dx, fs, v, q⟩ => ⟨a, C, dx, fs, v, rfl, q⟩⟩
theorem split {z y : Str} : rSplit (.str z) [.str y] H Q = (z.length ≤ sizeLine ∧ (y.length == 0) = false ∧ (Builtin.Str.partsBetween z (Builtin.Str.occurrences z y 0 z.length (z.length + 1)) y.length).length ≤ sizeLine ∧
      ∀ p H2, New H p (.lst ((Txt.split z y).map V.str)) H2 → Q (.ref p) H2) := rfl
end
end Rd
end L2
/-! ### classes of the text, checked at once -/
namespace L2
open PySem PySem.Spec PyProof.Rows
def clsOkB (K : PySem.W.Frag) (C : Addr) (ms : List (Str × Addr)) (fs : List Str) : Bool :=
  PySem.W.plainGet K C Str.empty && PySem.W.hasDictIn K C && PySem.W.plainOver K C && (PySem.W.findIn K (.ref C) "__setattr__" == some (some (.builtin "object.__setattr__")))
  && (PySem.W.findIn K (.ref C) "__class__" == some (some (.builtin "object.__class__"))) && (PySem.W.specialIn K (.builtin "object.__class__") "__get__" == some (some (.builtin "getset_descriptor.__get__")))
  && (PySem.W.takesIn K (.builtin "object.__class__") == some true) && (PySem.W.mroIn K C (.type "object") == some true) && PySem.W.makesIn K C && PySem.W.keepIn K (.ref C)
  && ms.all (fun p => PySem.W.findIn K (.ref C) p.1 == some (some (.ref p.2)) && PySem.W.isFn K (.ref p.2) && PySem.W.keepIn K (.ref p.2)) && fs.all (fun f => PySem.W.findIn K (.ref C) f == some none)
structure ClsOk (K : PySem.W.Frag) (C : Addr) (ms : List (Str × Addr)) (fs : List Str) : Prop where
  ins : InsOk K C
  mks : PySem.W.makesIn K C = true
  kp : PySem.W.keepIn K (.ref C) = true
  me : ∀ p ∈ ms, Meth K C p.1 p.2
  na : ∀ f ∈ fs, NoAttr K C f
theorem ClsOk.of {K : PySem.W.Frag} {C : Addr} {ms : List (Str × Addr)} {fs : List Str} (h : clsOkB K C ms fs = true) : ClsOk K C ms fs := by
  unfold clsOkB at h
  simp only [Bool.and_eq_true, List.all_eq_true, beq_iff_eq] at h
  obtain ⟨⟨⟨⟨⟨⟨⟨⟨⟨⟨⟨a, b⟩, c⟩, d⟩, e⟩, f⟩, g⟩, i⟩, j⟩, k⟩, l⟩, m⟩ := h
  exact ⟨⟨⟨a, b, c, d⟩, e, f, g, i⟩, j, k, fun p hp => let ⟨⟨x, y⟩, z⟩ := l p hp; ⟨x, y, z⟩, fun f hf => m f hf⟩
theorem ClsOk.made {K : PySem.W.Frag} {C f : Addr} {ms : List (Str × Addr)} {fs : List Str} (h : ClsOk K C ms fs) (hm : (("__init__" : Str), f) ∈ ms) : Mk K C f := ⟨h.mks, (h.me _ hm).at_, (h.me _ hm).fn, h.kp⟩
end L2
set_option Elab.async false
set_option linter.all false
set_option maxRecDepth 100000
set_option maxHeartbeats 4000000
/-! reversed(xs) walked, xs[::-1]. -/
namespace L2
open PySem PySem.Spec PyProof.Rows
/-- a list of n items from its end -/
def Itv (K : PySem.W.Frag) (a : Addr) (n : Nat) : It :=
  ⟨fun i H => ∃ xs x, SqL K H a xs ∧ xs.length = n ∧ xs.reverse[i]? = some x, fun i H x H' => H' = H ∧ ∀ xs, SqL K H a xs → xs.reverse[i]? = some x, fun i _ => i = n⟩
section
variable {X : Cx} {tg : Expr}
def iRev (K : PySem.W.Frag) (ta : TA) : TI := fun σ H R => ta σ H fun vs H1 => ∃ a xs, vs = [.ref a] ∧ SqL K H1 a xs ∧ R (Itv K a xs.length) H1
end
namespace Rd
section
variable {σ : St} {H : Hp} {Q : VK}
def rvQ (K : PySem.W.Frag) (R : It → Hp → Prop) : List V → Hp → Prop := fun vs H1 => ∃ a xs, vs = [.ref a] ∧ SqL K H1 a xs ∧ R (Itv K a xs.length) H1
theorem rv {K : PySem.W.Frag} {ta : TA} {R : It → Hp → Prop} : iRev K ta σ H R = ta σ H (rvQ K R) := rfl
end
end Rd
end L2
set_option Elab.async false
set_option linter.all false
set_option maxRecDepth 100000
set_option maxHeartbeats 4000000
/-! Texts put together, a sign of a text; lists of truths compared; rules within a block for methods. -/
namespace L2
open PySem PySem.Spec PyProof.Rows
section
variable {X : Cx}
end
namespace Rd
section
variable {H : Hp} {Q : VK}
end
end Rd
theorem New.sq {H H2 : Hp} {p : Addr} {o : HO} (n : New H p o H2) : Same H H2 := n.same
end L2
set_option Elab.async false
set_option linter.all false
set_option maxRecDepth 100000
set_option maxHeartbeats 4000000
/-! zip(a, b) walked by two names, each of a and b a list or a tuple. -/
namespace L2
open PySem PySem.Spec PyProof.Rows
/-- a list or a tuple -/
inductive Sr where | lst | tup
def Sr.IsIt (k : Sr) (h : Heap) (it l : Addr) (i : Nat) : Prop := match k with | .lst => h.IsListIter it l i | .tup => h.IsTupleIter it l i
def Sr.IsSq (k : Sr) (h : Heap) (l : Addr) (xs : Array Value) : Prop := match k with | .lst => h.IsList l xs | .tup => h.IsTuple l xs
def Sr.Ab (k : Sr) (K : PySem.W.Frag) (H : Hp) (a : Addr) (xs : List V) : Prop := match k with | .lst => SqL K H a xs | .tup => SqT K H a xs
def Sr.itc (k : Sr) : String := match k with | .lst => "list_iterator" | .tup => "tuple_iterator"
theorem Sr.IsIt.kp {k : Sr} {h h' : Heap} {it l : Addr} {i : Nat} (x : k.IsIt h it l i) (e : ∀ o, h.get? it = some o → h'.get? it = some o) : k.IsIt h' it l i := by
  cases k <;> (obtain ⟨o, a, b⟩ := x; exact ⟨o, e o a, b⟩)
theorem Sr.IsSq.kp {k : Sr} {h h' : Heap} {l : Addr} {xs : Array Value} (x : k.IsSq h l xs) (e : ∀ o, h.get? l = some o → h'.get? l = some o) : k.IsSq h' l xs := by
  cases k <;> (obtain ⟨o, a, b⟩ := x; exact ⟨o, e o a, b⟩)
theorem Sr.IsIt.ob {k : Sr} {h : Heap} {it l : Addr} {i : Nat} (x : k.IsIt h it l i) : ∃ o, h.get? it = some o ∧ ∀ v, o.data ≠ .cell v := by
  cases k <;> (obtain ⟨o, a, b, d⟩ := x; exact ⟨o, a, fun v z => by rw [d] at z; cases z⟩)
theorem Sr.IsSq.lt {k : Sr} {h : Heap} {l : Addr} {xs : Array Value} (x : k.IsSq h l xs) : l < h.objs.size := by
  cases k <;> (obtain ⟨o, a, b⟩ := x; exact Heap.lt_size a)
theorem Sr.IsIt.lt {k : Sr} {h : Heap} {it l : Addr} {i : Nat} (x : k.IsIt h it l i) : it < h.objs.size := by
  obtain ⟨o, a, _⟩ := x.ob; exact Heap.lt_size a
section
variable {prog : Program} {w : World} {A : Around} {E : Value → Shared → Prop} {s : Shared}
theorem Sr.nx (k : Sr) {it l : Addr} {i : Nat} {items : Array Value} {x : Value} {Q : Value → Shared → Prop} (hit : k.IsIt s.heap it l i) (hl : k.IsSq s.heap l items) (hx : items[i]? = some x)
    (hQ : ∀ m, k.IsIt m it l (i + 1) → Heap.SameBut it s.heap m → Q x { s with heap := m }) : wpAny (model prog w) A (Builtin.SmallTypes.nextOf (.ref it)) Q E s := by
  cases k with
  | lst => exact wpAny_nextOf_list_item hit hl hx hQ
  | tup =>
    have hit : s.heap.IsTupleIter it l i := hit
    obtain ⟨o, ho, hc, hd⟩ := id hit
    obtain ⟨ol, hol, _, nl, hdl⟩ := hl
    have ht := hit.typeIs
    unfold Builtin.SmallTypes.nextOf
    refine wpAny_bind (wpAny_callSpecial?_slot (name := Str.ofString "__next__") ht F.slot_tuple_iterator_next (wpAny_call_entry F.slot_tuple_iterator_next ht F.entry_tuple_iterator_next ?_ (F.args_tuple_iterator_next_1 _)))
    show wpAny _ _ (field (.ref it) 0 >>= _) _ _ s; refine wpAny_bind (wpAny_field ho hd (x := .ref l) rfl ?_)
    show wpAny _ _ (if (Value.ref l == Value.none) = true then _ else _) _ _ s; rw [if_neg (show ¬ ((Value.ref l == Value.none) = true) from Bool.false_ne_true)]
    show wpAny _ _ (field (.ref it) 1 >>= _) _ _ s; refine wpAny_bind (wpAny_field ho hd (x := .int i 0) rfl ?_)
    show wpAny _ _ (seqItems? (.ref l) >>= _) _ _ s; refine wpAny_bind (wpAny_seqItems hol hdl ?_)
    simp only [Int.toNat_natCast, hx]
    refine wpAny_bind (wpAny_setField ho hd (by simp) (wpAny_pure ⟨x, rfl, wpAny_pure (hQ _ ⟨_, Heap.get?_update_self _ ho (Obj.isFreed_of_fields (Obj.data_mapFields hd _)), (Obj.cls_mapFields ..).trans hc, by rw [Obj.data_mapFields hd]; simp [rawInt]⟩ (Heap.SameBut.update ..))⟩))
theorem Sr.iter (k : Sr) {l : Addr} {xs : Array Value} {Q : Value → Shared → Prop} (h : k.IsSq s.heap l xs)
    (hQ : Q (.ref s.heap.objs.size) { s with heap := s.heap.push { cls := .type k.itc, data := .fields #[.ref l, .int 0 0] } }) : wpAny (model prog w) A (pyIter (.ref l)) Q E s := by
  cases k with
  | lst => exact wpAny_pyIter_list h hQ
  | tup => exact wpAny_pyIter_tuple h hQ
end
section
variable {prog : Program} {w : World} {A : Around} {E : Value → Shared → Prop} {s : Shared}
end
section
variable {prog : Program} {w : World} {A : Around} {E : Value → Shared → Prop} {s : Shared}
end
section
variable {X : Cx} {pins : List (Addr × Obj)} {σ : St} {H : Hp} {s : Shared} {h' : Heap}
end
theorem Sr.Ab.same {k : Sr} {K : PySem.W.Frag} {H H' : Hp} {a : Addr} {xs : List V} (h : k.Ab K H a xs) (s : Same H H') : k.Ab K H' a xs := by
  cases k with
  | lst => exact s.seq h
  | tup => exact s.seqT h
section
variable {X : Cx}
end
namespace Rd
section
variable {σ : St} {H : Hp}
end
end Rd
section
variable {te : TE} {Q : VK} {σ : St} {H : Hp}
end
section
variable {X : Cx} {pins : List (Addr × Obj)} {σ : St} {H H' : Hp} {s : Shared} {h' : Heap}
end
/-- list(zip(a, b)), both of one length -/
def lzQ (K : PySem.W.Frag) (Q : VK) : List V → Hp → Prop := fun vs H1 => ∃ k1 k2 a b xs ys, vs = [.ref a, .ref b] ∧ Sr.Ab k1 K H1 a xs ∧ Sr.Ab k2 K H1 b ys ∧ xs.length = ys.length ∧
  ∀ (p : Addr) (ts : List Addr) (H2 : Hp), Same H1 H2 → H1 p = none → H2 p = some (.lst (ts.map V.ref)) → ts.length = xs.length →
    (∀ (j : Nat) (t : Addr), ts[j]? = some t → ∃ x y, xs[j]? = some x ∧ ys[j]? = some y ∧ H2 t = some (.tup [x, y])) → Q (.ref p) H2
def tLz (K : PySem.W.Frag) (t : TA) : TE := fun σ H Q => t σ H (lzQ K Q)
section
variable {X : Cx}
end
namespace Rd
section
variable {σ : St} {H : Hp} {Q : VK}
theorem lz {K : PySem.W.Frag} {ta : TA} : tLz K ta σ H Q = ta σ H (lzQ K Q) := rfl
end
end Rd
section
variable {X : Cx}
end
namespace Rd
section
variable {H : Hp} {Q : VK}
end
end Rd
/-! a raise that is never reached -/
def sRaise : TS := fun _ _ _ => False
theorem ps_raise {X : Cx} {st : Stmt} : PS X st sRaise := fun _ _ _ _ _ _ h => False.elim h
namespace Rd
theorem rse {D : Ends} {σ : St} {H : Hp} : sRaise D σ H = False := rfl
end Rd
end L2
set_option Elab.async false
set_option linter.all false
set_option maxRecDepth 100000
set_option maxHeartbeats 4000000
/-! xs.extend(ys). -/
namespace L2
open PySem PySem.Spec PyProof.Rows
/-! t[lo:hi], also where that is t itself -/
section
variable {prog : Program} {w : World} {A : Around} {E : Value → Shared → Prop} {s : Shared}
end
namespace Rd
end Rd
end L2
set_option Elab.async false
set_option linter.all false
set_option maxRecDepth 100000
set_option maxHeartbeats 4000000
/-! PROMISES by the kinds of their arguments: no matcher is laid for each def. -/
namespace L2
open PySem PySem.Spec PyProof.Rows
inductive Kd where | i | r | s | b
def Kd.T : Kd → Type
  | .i => Int
  | .r => Addr
  | .s => Str
  | .b => Bool
def SpF : List Kd → Type
  | [] => Hp → VK → Prop
  | k :: ks => k.T → SpF ks
def spN : (ks : List Kd) → SpF ks → Sp
  | [], P, [], H, Q, _ => P H Q
  | .i :: ks, P, .int x :: vs, H, Q, E => spN ks (P x) vs H Q E
  | .r :: ks, P, .ref x :: vs, H, Q, E => spN ks (P x) vs H Q E
  | .s :: ks, P, .str x :: vs, H, Q, E => spN ks (P x) vs H Q E
  | .b :: ks, P, .bl x :: vs, H, Q, E => spN ks (P x) vs H Q E
  | _, _, _, _, _, _ => False
section
variable {ks : List Kd} {vs : List V} {H : Hp} {Q : VK} {E : XK}
theorem spN_nil {P : SpF []} (h : spN [] P vs H Q E) : vs = [] ∧ P H Q := match vs, h with
  | [], h => ⟨rfl, h⟩
theorem spN_i {P : SpF (.i :: ks)} (h : spN (.i :: ks) P vs H Q E) : ∃ (x : Int) (us : List V), vs = .int x :: us ∧ spN ks (P x) us H Q E := match vs, h with
  | .int x :: us, h => ⟨x, us, rfl, h⟩
theorem spN_r {P : SpF (.r :: ks)} (h : spN (.r :: ks) P vs H Q E) : ∃ (x : Addr) (us : List V), vs = .ref x :: us ∧ spN ks (P x) us H Q E := match vs, h with
  | .ref x :: us, h => ⟨x, us, rfl, h⟩
theorem spN_s {P : SpF (.s :: ks)} (h : spN (.s :: ks) P vs H Q E) : ∃ (x : Str) (us : List V), vs = .str x :: us ∧ spN ks (P x) us H Q E := match vs, h with
  | .str x :: us, h => ⟨x, us, rfl, h⟩
theorem spN_b {P : SpF (.b :: ks)} (h : spN (.b :: ks) P vs H Q E) : ∃ (x : Bool) (us : List V), vs = .bl x :: us ∧ spN ks (P x) us H Q E := match vs, h with
  | .bl x :: us, h => ⟨x, us, rfl, h⟩
theorem spN_len : ∀ {ks : List Kd} {P : SpF ks} {vs : List V}, spN ks P vs H Q E → vs.length = ks.length
  | [], P, vs, h => by rw [(spN_nil h).1]; rfl
  | .i :: ks, P, vs, h => by obtain ⟨x, us, rfl, h2⟩ := spN_i h; rw [List.length_cons, List.length_cons, spN_len h2]
  | .r :: ks, P, vs, h => by obtain ⟨x, us, rfl, h2⟩ := spN_r h; rw [List.length_cons, List.length_cons, spN_len h2]
  | .s :: ks, P, vs, h => by obtain ⟨x, us, rfl, h2⟩ := spN_s h; rw [List.length_cons, List.length_cons, spN_len h2]
  | .b :: ks, P, vs, h => by obtain ⟨x, us, rfl, h2⟩ := spN_b h; rw [List.length_cons, List.length_cons, spN_len h2]
end
example {w n : Int} {H : Hp} {Q : VK} {E : XK} : spN [.i, .i] (fun w n H Q => w = n ∧ Q (.int n) H) [.int w, .int n] H Q E = (w = n ∧ Q (.int n) H) := rfl
end L2
namespace SetX
open PySem
def Rise (l : List Nat) : Prop := l.Pairwise (· < ·)
theorem Rise.at {xs : Array Nat} (r : Rise xs.toList) {i k : Nat} (hi : i < xs.size) (hk : k < xs.size) (h : i < k) : xs[i] < xs[k] := by
  have := List.pairwise_iff_getElem.mp r i k (by simpa using hi) (by simpa using hk) h
  simpa using this
theorem Rise.at' {xs : Array Nat} (r : Rise xs.toList) {i k : Nat} (hi : i < xs.size) (hk : k < xs.size) (h : i ≤ k) : xs[i] ≤ xs[k] := by
  rcases Nat.lt_or_ge i k with q | q
  · exact Nat.le_of_lt (r.at hi hk q)
  · have e : i = k := Nat.le_antisymm h q
    subst e; exact Nat.le_refl _
theorem go_spec {xs : Array Nat} (j : Nat) (r : Rise xs.toList) : ∀ (f lo hi : Nat), hi ≤ xs.size → lo ≤ hi → hi - lo ≤ f → (∀ i (h : i < xs.size), i < lo → xs[i] < j) → (∀ i (h : i < xs.size), hi ≤ i → j ≤ xs[i]) →
    SetTable.below.go xs j f lo hi ≤ xs.size ∧ (∀ i (h : i < xs.size), i < SetTable.below.go xs j f lo hi → xs[i] < j) ∧ (∀ i (h : i < xs.size), SetTable.below.go xs j f lo hi ≤ i → j ≤ xs[i])
  | 0, lo, hi, h1, h2, h3, h4, h5 => by
    have e : lo = hi := by omega
    subst e
    exact ⟨h1, h4, h5⟩
  | f + 1, lo, hi, h1, h2, h3, h4, h5 => by
    unfold SetTable.below.go
    by_cases q : lo < hi
    · rw [if_pos q]
      have hm : (lo + hi) / 2 < xs.size := by omega
      have eg : xs.getD ((lo + hi) / 2) j = xs[(lo + hi) / 2] := by simp [Array.getD, hm]
      dsimp only
      rw [eg]
      by_cases z : xs[(lo + hi) / 2] < j
      · rw [if_pos z]
        refine go_spec j r f _ hi h1 (by omega) (by omega) (fun i h hl => ?_) h5
        exact Nat.lt_of_le_of_lt (r.at' h hm (by omega)) z
      · rw [if_neg z]
        refine go_spec j r f lo _ (by omega) (by omega) (by omega) h4 (fun i h hl => ?_)
        exact Nat.le_trans (Nat.le_of_not_lt z) (r.at' hm h hl)
    · rw [if_neg q]
      have e : lo = hi := by omega
      subst e
      exact ⟨h1, h4, h5⟩
theorem below_spec {xs : Array Nat} (j : Nat) (r : Rise xs.toList) :
    SetTable.below xs j ≤ xs.size ∧ (∀ i (h : i < xs.size), i < SetTable.below xs j → xs[i] < j) ∧ (∀ i (h : i < xs.size), SetTable.below xs j ≤ i → j ≤ xs[i]) :=
  go_spec j r xs.size 0 xs.size (Nat.le_refl _) (Nat.zero_le _) (Nat.le_refl _) (fun _ _ h => absurd h (Nat.not_lt_zero _)) (fun _ h q => absurd h (Nat.not_lt.mpr q))
theorem below_next {xs : Array Nat} (r : Rise xs.toList) {i : Nat} (h : i < xs.size) : SetTable.below xs (xs[i] + 1) = i + 1 := by
  obtain ⟨b1, b2, b3⟩ := below_spec (xs[i] + 1) r
  rcases Nat.lt_trichotomy (SetTable.below xs (xs[i] + 1)) (i + 1) with q | q | q
  · have := b3 i h (Nat.le_of_lt_succ q)
    omega
  · exact q
  · have hs : i + 1 < xs.size := Nat.lt_of_lt_of_le q b1
    have := b2 (i + 1) hs q
    have := r.at h hs (Nat.lt_succ_self i)
    omega
theorem below_zero {xs : Array Nat} (r : Rise xs.toList) : SetTable.below xs 0 = 0 := by
  obtain ⟨b1, b2, b3⟩ := below_spec 0 r
  rcases Nat.eq_zero_or_pos (SetTable.below xs 0) with q | q
  · exact q
  · exact absurd (b2 0 (Nat.lt_of_lt_of_le q b1) q) (Nat.not_lt_zero _)
def Dead (t : SetTable) (j : Nat) : Prop := ∀ i, t.slot j ≠ .live i
theorem Dead.out {t : SetTable} {j : Nat} (d : Dead t j) (r : Rise t.place.toList) : j ∉ t.place.toList := by
  intro hj
  obtain ⟨k, hk, e⟩ := List.getElem_of_mem hj
  have hk' : k < t.place.size := by simpa using hk
  have e' : t.place[k] = j := by simpa using e
  obtain ⟨b1, b2, b3⟩ := below_spec j r
  have kb : SetTable.below t.place j ≤ k := by
    rcases Nat.lt_or_ge k (SetTable.below t.place j) with q | q
    · exact absurd (b2 k hk' q) (by omega)
    · exact q
  have hb : SetTable.below t.place j < t.place.size := Nat.lt_of_le_of_lt kb hk'
  have e2 : t.place[SetTable.below t.place j] = j := Nat.le_antisymm (Nat.le_trans (r.at' hb hk' kb) (Nat.le_of_eq e')) (b3 _ hb (Nat.le_refl _))
  refine d (SetTable.below t.place j) ?_
  unfold SetTable.slot
  simp [Array.getElem?_eq_getElem hb, e2]
theorem probe_dead {t : SetTable} {f : Nat → Int} {h : Int} {j : Nat} {d : Option Nat} : ∀ (n : Nat) (p : SetTable.Probe), (∀ x, p.dummy = some x → Dead t x) → SetTable.probe.go t f h n p = some (.empty j d) → Dead t j ∧ ∀ x, d = some x → Dead t x
  | 0, p, _, e => by simp [SetTable.probe.go] at e
  | n + 1, p, hp, e => by
    unfold SetTable.probe.go at e
    have hadv : ∀ q : SetTable.Probe, (t.advance q).dummy = q.dummy := by
      intro q; unfold SetTable.advance; split <;> rfl
    split at e
    · rename_i es
      injection e with e
      injection e with e1 e2
      subst e1; subst e2
      exact ⟨fun i z => (by rw [es] at z; cases z), hp⟩
    · rename_i es
      refine probe_dead n _ (fun x hx => ?_) e
      rw [hadv] at hx
      injection hx with hx
      subst hx
      exact fun i z => by rw [es] at z; cases z
    · split at e
      · cases e
      · refine probe_dead n _ (fun x hx => ?_) e
        rw [hadv] at hx
        exact hp x hx
theorem free_dead {t : SetTable} {h : Int} {j : Nat} {b : Bool} (e : t.freeSlot h = some (j, b)) : Dead t j := by
  unfold SetTable.freeSlot at e
  split at e
  · rename_i k d hpr
    unfold SetTable.probe at hpr
    obtain ⟨a1, a2⟩ := probe_dead _ _ (fun x hx => by simp [SetTable.probeStart] at hx) hpr
    injection e with e
    injection e with e1 e2
    cases d with
    | none => simp at e1; subst e1; exact a1
    | some x => simp at e1; subst e1; exact a2 _ rfl
  · cases e
theorem put_rise {t : SetTable} {j : Nat} (r : Rise t.place.toList) (d : Dead t j) : Rise (t.put j).1.place.toList := by
  show Rise (SetTable.insertAt t.place (SetTable.below t.place j) j).toList
  rw [SetTable.toList_insertAt]
  obtain ⟨b1, b2, b3⟩ := below_spec j r
  have out := d.out r
  have rs : Rise (t.place.toList.take (SetTable.below t.place j) ++ t.place.toList.drop (SetTable.below t.place j)) := by rw [List.take_append_drop]; exact r
  obtain ⟨r1, r2, r3⟩ := List.pairwise_append.mp rs
  have lo : ∀ x ∈ t.place.toList.take (SetTable.below t.place j), x < j := by
    intro x hx
    obtain ⟨i, hi, e⟩ := List.getElem_of_mem hx
    rw [List.getElem_take] at e
    rw [List.length_take] at hi
    have := b2 i (by simp at hi; omega) (by omega)
    rw [← e]; simpa using this
  have hi : ∀ x ∈ t.place.toList.drop (SetTable.below t.place j), j < x := by
    intro x hx
    obtain ⟨i, hi, e⟩ := List.getElem_of_mem hx
    rw [List.getElem_drop] at e
    rw [List.length_drop] at hi
    have h1 := b3 (SetTable.below t.place j + i) (by simp at hi; omega) (by omega)
    have e' : t.place[SetTable.below t.place j + i]'(by simp at hi; omega) = x := by simpa using e
    rw [e'] at h1
    refine Nat.lt_of_le_of_ne h1 (fun z => out ?_)
    rw [z]; exact List.mem_of_mem_drop hx
  refine List.pairwise_append.mpr ⟨r1, List.pairwise_cons.mpr ⟨hi, r2⟩, fun x hx y hy => ?_⟩
  rcases List.mem_cons.mp hy with q | q
  · rw [q]; exact lo x hx
  · exact r3 x hx y q
def Good (t : SetTable) : Prop := t.plain = true → Rise t.place.toList
theorem Good.standIn (t : SetTable) (n : Nat) : Good (t.standIn n) := fun h => by simp [SetTable.standIn] at h
theorem layNew_good {t : SetTable} (es : Array (Int × Value)) (h : Int) (x : Value) (g : Good t) : Good (layNew t es h x).2.1 ∧ (layNew t es h x).2.1.led = t.led := by
  unfold layNew
  split
  · rename_i slot dm e
    have d := free_dead e
    dsimp only
    unfold SetTable.orStandIn
    split
    · exact ⟨fun hp => put_rise (g hp) d, rfl⟩
    · exact ⟨Good.standIn _ _, rfl⟩
  · exact ⟨Good.standIn _ _, rfl⟩
theorem laid_good {mask finger moves : Nat} {led plain : Bool} {hs : Array Int} {t : SetTable} {o : Array Nat} (e : SetTable.laid mask finger moves led plain hs = some (t, o)) : Good t ∧ t.led = led := by
  unfold SetTable.laid at e
  cases hc : SetTable.layClean mask hs with
  | none => rw [hc] at e; simp at e
  | some owner =>
    rw [hc] at e
    simp at e
    obtain ⟨e1, e2⟩ := e
    subst e1
    refine ⟨fun _ => ?_, rfl⟩
    show Rise (((List.range (mask + 1)).filterMap fun j => (owner[j]?.getD none).map (j, ·)).map (·.1)).toArray.toList
    rw [List.toList_toArray]
    refine List.pairwise_map.mpr (List.pairwise_filterMap.mpr ((List.pairwise_lt_range).imp ?_))
    intro a b hab p hp q hq
    cases ha : owner[a]?.getD none with
    | none => rw [ha] at hp; simp at hp
    | some u =>
      rw [ha] at hp
      cases hb : owner[b]?.getD none with
      | none => rw [hb] at hq; simp at hq
      | some v =>
        rw [hb] at hq
        simp at hp hq
        rw [← hp, ← hq]; exact hab
theorem relay_good {t : SetTable} (es : Array (Int × Value)) (n : Nat) : Good (relayAll t es n).2.1 ∧ (relayAll t es n).2.1.led = t.led := by
  unfold relayAll
  split
  · rename_i t' order e
    unfold SetTable.relaid at e
    have := laid_good e
    dsimp only
    split
    · exact this
    · exact ⟨Good.standIn _ _, rfl⟩
  · exact ⟨Good.standIn _ _, rfl⟩
theorem erase_perm {α : Type} : ∀ (l : List α) (i : Nat) (h : i < l.length), (l[i] :: l.eraseIdx i).Perm l
  | [], i, h => absurd h (Nat.not_lt_zero _)
  | a :: l, 0, h => by simp
  | a :: l, i + 1, h => by
    simp only [List.getElem_cons_succ, List.eraseIdx_cons_succ]
    exact (List.Perm.swap _ _ _).trans ((erase_perm l i (by simpa using h)).cons a)
theorem pick_perm {α : Type} (next : Nat → Nat) : ∀ (n k : Nat) (l : List α) (out : Array α), l.length = n → (pickOrder.go next n k l out).toList.Perm (out.toList ++ l)
  | 0, k, l, out, e => by
    have : l = [] := List.length_eq_zero_iff.mp e
    subst this
    simp [pickOrder.go]
  | n + 1, k, l, out, e => by
    unfold pickOrder.go
    have hl : next k % l.length < l.length := Nat.mod_lt _ (by omega)
    rw [List.getElem?_eq_getElem hl]
    dsimp only
    refine (pick_perm next n (k + 1) _ _ (by rw [List.length_eraseIdx, if_pos hl]; omega)).trans ?_
    rw [Array.toList_push, List.append_assoc]
    refine List.Perm.append_left _ ?_
    exact erase_perm _ _ hl
theorem pickOrder_perm {α : Type} (next : Nat → Nat) (xs : Array α) : (pickOrder next xs).toList.Perm xs.toList := by
  unfold pickOrder
  have := pick_perm next xs.size 0 xs.toList #[] (by simp)
  simpa using this
end SetX
namespace SetX
open PySem PySem.Spec PyProof.Rows
set_option maxRecDepth 100000
def num : Value → Int
  | .int n _ => n
  | _ => 0
def AllI (l : List (Int × Value)) : Prop := ∀ e ∈ l, ∃ n t, e.2 = .int n t ∧ e.1 = hashInt n
def nums (l : List (Int × Value)) : List Int := l.map fun e => num e.2
def byText (w : World) : Bool := w.params.followText "set-order"
abbrev setO (es : Array (Int × Value)) (ep : Nat) (t : SetTable) : Obj := { cls := .type "set", dict := none, data := .set es ep t }
structure SetL (w : World) (h : Heap) (a : Addr) (es : Array (Int × Value)) (ep : Nat) (t : SetTable) : Prop where
  here : h.get? a = some (setO es ep t)
  all : AllI es.toList
  nd : (nums es.toList).Nodup
  few : es.size < scanBound
  fit : t.fits es.size = true
  led : t.led = !byText w
  good : Good t
theorem SetL.keep {w : World} {h h' : Heap} {a : Addr} {es : Array (Int × Value)} {ep : Nat} {t : SetTable} (S : SetL w h a es ep t) (e : ∀ o, h.get? a = some o → h'.get? a = some o) : SetL w h' a es ep t :=
  ⟨e _ S.here, S.all, S.nd, S.few, S.fit, S.led, S.good⟩
theorem AllI.elems {l : List (Int × Value)} (h : AllI l) (prog : Program) (w : World) : ElemsOf (intKind prog w) l := fun e he => by
  obtain ⟨n, t, e1, e2⟩ := h e he
  exact ⟨⟨n, by rw [e1]; exact intKind_is _ _ _ _, e2⟩, by rw [e1]; rfl⟩
theorem AllI.perm {l l' : List (Int × Value)} (h : AllI l) (p : l'.Perm l) : AllI l' := fun e he => h e (p.mem_iff.mp he)
theorem nums_perm {l l' : List (Int × Value)} (p : l'.Perm l) : (nums l').Perm (nums l) := p.map _
theorem AllI.is {l : List (Int × Value)} (h : AllI l) (prog : Program) (w : World) {e : Int × Value} (he : e ∈ l) (k : Int) : (intKind prog w).is k e.2 = decide (k = num e.2) := by
  obtain ⟨n, t, e1, _⟩ := h e he
  have z := KeyKind.is_eq_decide (knd := intKind prog w) (v := e.2) (k := n) (by rw [e1]; exact intKind_is _ _ _ _) k
  rw [z, e1]
  rfl
theorem AllI.ints {l : List (Int × Value)} (h : AllI l) : IntsAre (l.map (·.2)) (nums l) := by
  induction l with
  | nil => exact .nil
  | cons e l ih =>
    obtain ⟨n, t, e1, _⟩ := h e (.head _)
    have := ih fun x hx => h x (.tail _ hx)
    show IntsAre (e.2 :: l.map (·.2)) (num e.2 :: nums l)
    rw [e1]
    exact .cons n t this
theorem put_at {h : Heap} {a : Addr} {es : Array (Int × Value)} {ep : Nat} {t : SetTable} (e : h.get? a = some (setO es ep t)) (es' : Array (Int × Value)) (t' : SetTable) :
    (h.update a (Obj.putSet es' t')).get? a = some (setO es' (ep + 1) t') := by
  have z := Heap.get?_update_self (Obj.putSet es' t') e (by rw [putSet_of (es := es) (ep := ep) (t := t) es' t' rfl]; rfl)
  rw [putSet_of (es := es) (ep := ep) (t := t) es' t' rfl] at z
  exact z
section
variable {prog : Program} {w : World} {A : Around} {E : Value → Shared → Prop} {s : Shared}
theorem addL {a : Addr} {es : Array (Int × Value)} {ep : Nat} {t : SetTable} {k : Int} {tk : Tok} {Q : Bool → Shared → Prop} (S : SetL w s.heap a es ep t) (room : es.size + 1 < scanBound)
    (h : ∀ b m es' ep' t', Heap.SameBut a s.heap m → SetL w m a es' ep' t' → (∀ j, j ∈ nums es'.toList ↔ j ∈ nums es.toList ∨ j = k) → es'.size ≤ es.size + 1 → Q b { s with heap := m }) :
    wpAny (model prog w) A (setAddHashed a (.int k tk) (hashInt k)) Q E s := by
  have hel := S.all.elems prog w
  unfold setAddHashed setAddHashedIn
  refine wpAny_holding (wpAny_bind (wpAny_setState_of S.here rfl S.fit ?_))
  dsimp only
  rw [byScan_of (x := .int k tk) rfl S.few hel]
  simp only [↓reduceIte]
  unfold setAddByScan
  refine wpAny_bind (wpAny_bind (wpAny_rule ?_))
  refine wpAny_bind (wpAny_setScan_of (knd := intKind prog w) (k := k) (intKind_is _ _ _ _) S.here rfl S.fit hel ?_)
  cases hr : List.findIdx? (fun e => (intKind prog w).is k e.2) es.toList with
  | some j =>
    dsimp only
    obtain ⟨hj, hpj, _⟩ := List.findIdx?_eq_some_iff_getElem.mp hr
    rw [S.all.is prog w (List.getElem_mem hj), decide_eq_true_eq] at hpj
    refine wpAny_pure (wpAny_pure ?_)
    have e0 : s = { s with heap := s.heap } := by cases s; rfl
    rw [e0]
    refine h false s.heap es ep t (Heap.SameBut.refl a s.heap) S (fun j' => ⟨.inl, fun q => q.elim id fun q => ?_⟩) (Nat.le_succ _)
    rw [q, hpj]
    exact List.mem_map.mpr ⟨_, List.getElem_mem hj, rfl⟩
  | none =>
    dsimp only
    have hno : k ∉ nums es.toList := by
      intro q
      obtain ⟨e, he, e1⟩ := List.mem_map.mp q
      have z := List.findIdx?_eq_none_iff.mp hr e he
      rw [S.all.is prog w he, e1] at z
      simp at z
    have gw : ∀ (b : Bool) {s₁ : Shared} {Q' : Unit → Shared → Prop}, Q' () s₁ → wpAny (model prog w) A (match b with
        | true => rule "set.scan.the-table-gave-way"
        | false => pure ()) Q' E s₁ := fun b s₁ Q' q => by
      cases b
      · exact wpAny_pure q
      · exact wpAny_rule q
    have pe := layNew_perm t es (hashInt k) (.int k tk)
    have fi := layNew_fits t es (hashInt k) (.int k tk)
    have go := layNew_good (t := t) es (hashInt k) (.int k tk) S.good
    generalize layNew t es (hashInt k) (.int k tk) = L at pe fi go ⊢
    obtain ⟨es1, t1, wasDummy, gave⟩ := L
    dsimp only at pe fi go ⊢
    rw [Array.toList_push] at pe
    have pn : (nums es1.toList).Perm (nums es.toList ++ [k]) := by
      have := nums_perm pe
      rw [show nums (es.toList ++ [(hashInt k, Value.int k tk)]) = nums es.toList ++ [k] by simp [nums, num]] at this
      exact this
    have a1 : AllI es1.toList := by
      refine AllI.perm (fun e he => ?_) pe
      rcases List.mem_append.mp he with q | q
      · exact S.all e q
      · rw [List.mem_singleton] at q
        rw [q]; exact ⟨k, tk, rfl, rfl⟩
    have n1 : (nums es1.toList).Nodup := by
      refine pn.nodup_iff.mpr (List.nodup_append.mpr ⟨S.nd, by simp, fun x hx y hy => ?_⟩)
      rw [List.mem_singleton] at hy
      exact fun q => hno (by rw [← hy, ← q]; exact hx)
    have z1 : es1.size = es.size + 1 := by
      have := pe.length_eq
      simpa using this
    have m1 : ∀ j, j ∈ nums es1.toList ↔ j ∈ nums es.toList ∨ j = k := fun j => by rw [pn.mem_iff]; simp
    refine wpAny_bind (gw _ ?_)
    have tail : ∀ s₁ : Shared, s₁ = s → wpAny (model prog w) A (do
          storeSet a es1 t1
          if (!wasDummy && t1.tooFull) = true then do
              (match (relayAll t1 es1 (SetTable.grown es1.size)).2.2 with
                | true => rule "set.scan.the-table-gave-way"
                | false => pure ())
              storeSet a (relayAll t1 es1 (SetTable.grown es1.size)).1 (relayAll t1 es1 (SetTable.grown es1.size)).2.1
              pure (some true)
            else pure (some true)) (fun r s' => r = some true ∧ Q true s') E s₁ := by
      intro s₁ es₁
      subst es₁
      refine wpAny_bind (wpAny_storeSet_of S.here rfl ?_ (fits_of_scanBound (by omega)))
      have p1 := put_at S.here es1 t1
      have S1 : SetL w (s₁.heap.update a (Obj.putSet es1 t1)) a es1 (ep + 1) t1 := ⟨p1, a1, n1, by omega, fi, go.2.trans S.led, go.1⟩
      have b1 := Heap.SameBut.update s₁.heap a (Obj.putSet es1 t1)
      split
      · have rp := relayAll_perm t1 es1 (SetTable.grown es1.size)
        have rf := relayAll_fits t1 es1 (SetTable.grown es1.size)
        have rg := relay_good (t := t1) es1 (SetTable.grown es1.size)
        generalize relayAll t1 es1 (SetTable.grown es1.size) = L at rp rf rg ⊢
        obtain ⟨es2, t2, g2⟩ := L
        dsimp only at rp rf rg ⊢
        have z2 : es2.size = es1.size := by
          have := rp.length_eq
          simpa using this
        refine wpAny_bind (gw _ ?_)
        refine wpAny_bind (wpAny_storeSet_of p1 rfl ?_ (fits_of_scanBound (by omega)))
        refine wpAny_pure ⟨rfl, h true _ es2 (ep + 1 + 1) t2 (b1.trans (Heap.SameBut.update _ a _)) ⟨put_at p1 es2 t2, a1.perm rp, (nums_perm rp).nodup_iff.mpr n1, by omega, rf, rg.2.trans (go.2.trans S.led), rg.1⟩ (fun j => ?_) (by omega)⟩
        rw [(nums_perm rp).mem_iff]; exact m1 j
      · exact wpAny_pure ⟨rfl, h true _ es1 (ep + 1) t1 b1 S1 m1 (by omega)⟩
    split
    · refine wpAny_bind ?_
      rw [hashByValue_scannable 8 (x := .int k tk) rfl]
      refine wpAny_pure ?_
      rw [show plainKind (.int k tk) = true from rfl]
      simp only [↓reduceIte]
      refine wpAny_mono (tail s rfl) (fun r s' hr => ?_) fun _ _ z => z
      rw [hr.1]
      exact wpAny_pure hr.2
    · refine wpAny_bind (wpAny_pure ?_)
      simp only [↓reduceIte]
      refine wpAny_mono (tail s rfl) (fun r s' hr => ?_) fun _ _ z => z
      rw [hr.1]
      exact wpAny_pure hr.2
end
end SetX
namespace SetX
open PySem PySem.Spec PyProof.Rows
set_option maxRecDepth 100000
section
variable {prog : Program} {w : World} {A : Around} {R : Result → Shared → Prop} {I : Addr} {fp wr : List Addr} {G : Array GenState → Array GenState → Prop} {n : Nat} {P : Nat → Value → Prop} {St : Nat → Shared → Prop}
theorem loopL (W : WalksS prog w A.in1 I fp wr G n P St) (S : Addr) (hS : S ∉ fp) (val : Nat → Int) (hv : ∀ i v, P i v → ∃ t, v = .int (val i) t) (hb : n + 1 < scanBound) :
    ∀ (k i : Nat) (s : Shared) (es : Array (Int × Value)) (ep : Nat) (t : SetTable), n - i = k → i ≤ n → St i s → SetL w s.heap S es ep t → es.size ≤ i → (∀ j, j ∈ nums es.toList ↔ ∃ m, m < i ∧ val m = j) →
      (∀ s' es' ep' t', Moved (S :: wr) G s s' → SetL w s'.heap S es' ep' t' → es'.size ≤ n → (∀ j, j ∈ nums es'.toList ↔ ∃ m, m < n ∧ val m = j) → R (.ok (.ret .none)) s') →
      codeAny (model prog w) A (.builtin "set.update.loop" ⟨[.ref S, .ref I], []⟩) R s := by
  have hw : S ∉ wr := fun q => hS (W.sub _ q)
  have up : ∀ b ∈ wr, b ∈ S :: wr := fun b q => List.mem_cons_of_mem _ q
  intro k
  induction k with
  | zero =>
    intro i s es ep t hk hi st L hz hm hR
    have e : i = n := by omega
    subst e
    refine codeAny_builtin F.entry_set_update_loop ?_
    rw [Around.under_plainId F.plain_set_update_loop _]
    show wpAny _ A.in1 (pyNext (.ref I) >>= _) _ _ s
    refine wpAny_bind (W.done s _ _ st fun s' mv => ?_)
    show wpAny _ A.in1 (ret Value.none) _ _ s'
    exact wpAny_pure (hR s' es ep t (mv.mono up) (L.keep fun o q => mv.heap S o hw q) hz hm)
  | succ k ih =>
    intro i s es ep t hk hi st L hz hm hR
    have hlt : i < n := by omega
    refine codeAny_builtin F.entry_set_update_loop ?_
    rw [Around.under_plainId F.plain_set_update_loop _]
    show wpAny _ A.in1 (pyNext (.ref I) >>= _) _ _ s
    refine wpAny_bind (W.item i s _ _ hlt st fun v s' hP st' mv => ?_)
    obtain ⟨tk, rfl⟩ := hv i v hP
    have L' := L.keep fun o q => mv.heap S o hw q
    show wpAny _ A.in1 (holding [Value.int (val i) tk] (setAdd S (.int (val i) tk)) >>= _) _ _ s'
    refine wpAny_bind (wpAny_holding ?_)
    unfold setAdd
    refine wpAny_holding (wpAny_bind ((intKind prog w).pyHash (k := val i) (intKind_is _ _ _ _) ?_))
    refine addL (s := { s' with toks := s'.toks + 1 }) L' (by omega) fun b m es' ep' t' sb L2 m2 z2 => ?_
    refine wpAny_pure ⟨plainId_quiet F.plain_set_update_loop _, ih (i + 1) _ es' ep' t' (by omega) hlt (W.frame _ s' _ _ st' (Nat.le_succ _) fun b hb o e => ?_) L2 (by omega) (fun j => ?_) fun s'' es2 ep2 t2 mv2 L3 z3 m3 => ?_⟩
    · rw [sb.2 b fun q : b = S => hS (by rw [← q]; exact hb)]; exact e
    · rw [m2 j, hm j]
      constructor
      · rintro (⟨m, h1, h2⟩ | q)
        · exact ⟨m, by omega, h2⟩
        · exact ⟨i, by omega, q.symm⟩
      · rintro ⟨m, h1, h2⟩
        rcases Nat.lt_or_ge m i with q | q
        · exact .inl ⟨m, q, h2⟩
        · have : m = i := by omega
          subst this; exact .inr h2.symm
    · refine hR s'' es2 ep2 t2 (Moved.trans W.gtrans ((mv.mono up).then_heap (Nat.le_succ _) fun b o hb e => ?_) mv2) L3 z3 m3
      rw [sb.2 b fun q : b = S => hb (by rw [q]; exact List.mem_cons_self)]; exact e
end
section
variable {prog : Program} {w : World} {A : Around} {E : Value → Shared → Prop} {s : Shared}
abbrev new0 (w : World) : Obj := setO #[] 0 (.fresh 0 0 (!byText w))
theorem code_newL (a : Value) {Q₁ : Value → Shared → Prop} (h : Q₁ (.ref s.heap.objs.size) { s with heap := s.heap.push (new0 w) }) :
    codeAny (model prog w) A (.call (.builtin "set.__new__") ⟨[.type "set", a], []⟩) (wants Q₁ E) s := by
  refine codeAny_of_tree ?_
  show wpAny _ A.in1 (do
    checkBuiltinCall "set.__new__" ⟨[.type "set", a], []⟩
    again (.builtin "set.__new__" ⟨[.type "set", a], []⟩)) _ _ s
  refine wpAny_bind (wpAny_of_eq (F.newCall_set_1 a) ?_)
  refine wpAny_pure ⟨plainId_quiet F.plain_set_new _, codeAny_builtin F.entry_set_new ?_⟩
  rw [Around.under_plainId F.plain_set_new _]
  unfold Builtin.«set.__new__» Builtin.Frozenset.newClass
  have hsub := sub_set_self
  obtain ⟨hp, g, d, tk, os⟩ := s
  dsimp only
  wp_walk
  refine wpAny_askSetting (wpAny_pure ?_)
  dsimp only
  simp only [newObj]
  refine wpAny_bind (wpAny_alloc (wpAny_pure ?_))
  exact wpAny_pure h
theorem SetL.fresh (w : World) {h : Heap} {a : Addr} (e : h.get? a = some (new0 w)) : SetL w h a #[] 0 (.fresh 0 0 (!byText w)) :=
  ⟨e, fun _ q => by simp at q, List.nodup_nil, by decide, rfl, rfl, fun _ => List.Pairwise.nil⟩
set_option maxHeartbeats 3200000 in
theorem call_setL {l : Addr} {items : Array Value} {ns : List Int} {Q : Value → Shared → Prop} (hh : A.handled = none) (hl : s.heap.IsList l items) (hi : IntsAre items.toList ns) (hb : items.size + 1 < scanBound)
    (h : ∀ (m : Heap) (tk : Nat) (es : Array (Int × Value)) (ep : Nat) (t : SetTable), SetL w m s.heap.objs.size es ep t → es.size ≤ items.size → (∀ j, j ∈ nums es.toList ↔ j ∈ ns) →
      (∀ b o, b < s.heap.objs.size → s.heap.get? b = some o → m.get? b = some o) → s.toks ≤ tk → Q (.ref s.heap.objs.size) { s with heap := m, toks := tk }) :
    wpAny (model prog w) A (call (.type "set") [.ref l]) Q E s := by
  obtain ⟨c, tl, hmro⟩ := F.called_set.mro
  have hmade := F.called_set.made
  have hsub := F.called_set.sub
  refine wpAny_call (codeAny_of_tree ?_)
  show wpAny _ _ (callAny (.type "set") _) _ _ _
  refine wpAny_pure ⟨Code.quiet_builtin _ (by decide +kernel), ?_⟩
  refine codeAny_builtin F.entry_type_call ?_
  rw [Around.under_plain (weight_type_call_type "set" [.ref l] []) rfl]
  have h1 := F.called_set.notType
  have h2 := F.called_set.canCreate
  have hct := F.typeCall_set_1 (.ref l)
  repeat (any_goals (first | assumption | wp_step))
  refine codeAny_mono (code_newL (.ref l) (E := E) (Q₁ := fun obj s₁ => obj = .ref s.heap.objs.size ∧ s₁ = { s with heap := s.heap.push (new0 w) }) ⟨rfl, rfl⟩) fun r s₁ hr => ?_
  cases r with
  | error e => exact hr
  | ok fl =>
    cases fl with
    | ret obj =>
      obtain ⟨rfl, rfl⟩ := hr
      have g0 : (s.heap.push (new0 w)).get? s.heap.objs.size = some (new0 w) := Heap.get?_push_size _ rfl
      have hT : Shared.TypeIs { s with heap := s.heap.push (new0 w) } (.ref s.heap.objs.size) "set" := ⟨_, g0, rfl⟩
      have hli := F.called_set.init.lookup
      have hbi := F.called_set.init.bind (.ref s.heap.objs.size)
      repeat (any_goals (first | assumption | wp_step))
      refine codeAny_mono (codeAny_call_builtin (R := wants (fun r s₂ => r = .none ∧ ∃ m tk es ep t, s₂ = { s with heap := m, toks := tk } ∧ SetL w m s.heap.objs.size es ep t ∧ es.size ≤ items.size ∧ (∀ j, j ∈ nums es.toList ↔ j ∈ ns) ∧
          (∀ b o, b < s.heap.objs.size → s.heap.get? b = some o → m.get? b = some o) ∧ s.toks ≤ tk) E) F.called_set.init.plain F.entry_set_init (check_set_init_1 hT ?_)) fun r₂ s₂ hr₂ => ?_
      · obtain ⟨ol, hol, hcl, nl, hdl⟩ := hl
        obtain ⟨ocls, odict, odata, oslots⟩ := ol
        simp only at hcl hdl
        subst hcl; subst hdl
        have hol' : (s.heap.push (new0 w)).get? l = some { cls := .type "list", dict := odict, data := .seq items nl, slots := oslots } := Heap.get?_push_of_some _ hol
        have hsls := F.sub_list_set
        have hslf := F.sub_list_frozenset
        have hne : (Value.type "list" == Value.type "dict") = false := by decide
        have hl1 : (s.heap.push (new0 w)).IsList l items := ⟨_, hol', rfl, nl, rfl⟩
        unfold Builtin.«set.__init__» noKeywords Builtin.Frozenset.updateFrom
        generalize hPI : pyIter = PI
        wp_walk
        subst hPI
        refine wpAny_pyIter_list hl1 ?_
        refine wpAny_bind (wpAny_runValue ?_)
        have hls : l < s.heap.objs.size := Heap.lt_size hol
        have hh3 : A.in1.in1.in1.handled = none := by simp [hh]
        have nI : l ≠ (s.heap.push (new0 w)).objs.size := by rw [Heap.size_push]; exact Nat.ne_of_lt (Nat.lt_succ_of_lt hls)
        have nS : s.heap.objs.size ∉ [(s.heap.push (new0 w)).objs.size, l] := by
          rw [Heap.size_push]
          intro q
          rcases List.mem_cons.mp q with q | q
          · exact absurd q (Nat.ne_of_lt (Nat.lt_succ_self _))
          · rw [List.mem_singleton] at q
            exact absurd q (Nat.ne_of_gt hls)
        have hval : ∀ (i : Nat) (v : Value), items[i]? = some v → ∃ t, v = .int ((fun i => ns.getD i 0) i) t := fun i v hv => IntsAre.int_at hi i v (by rw [Array.getElem?_toList]; exact hv)
        have hlen : items.size = ns.length := by rw [← Array.length_toList]; exact IntsAre.length hi
        have g1 : ((s.heap.push (new0 w)).push { cls := .type "list_iterator", data := .fields #[.ref l, .int 0 0] }).get? s.heap.objs.size = some (new0 w) := Heap.get?_push_of_some _ g0
        refine loopL ((Walks.list hh3 _ l nI items).toS) s.heap.objs.size nS (fun i => ns.getD i 0) hval hb (items.size - 0) 0 _ #[] 0 _ (by omega) (Nat.zero_le _)
          ⟨⟨_, Heap.get?_push_size _ rfl, rfl, rfl⟩, (hl1.push _)⟩ (SetL.fresh w g1) (Nat.le_refl _) (fun j => by simp [nums]) ?_
        intro s' es ep t mv L z hm
        obtain ⟨m, g', d', tk', os'⟩ := s'
        have eg : g' = s.gens := mv.gens
        have ed : d' = s.drawn := mv.drawn
        have eo : os' = s.os := mv.os
        have et : s.toks ≤ tk' := mv.toks
        subst eg; subst ed; subst eo
        show wpAny _ _ _ _ _ _
        refine wpAny_pure ?_
        show wpAny _ _ (ret Value.none) _ _ _
        refine wpAny_pure ⟨rfl, m, tk', es, ep, t, rfl, L, z, fun j => ?_, fun b o hb e => ?_, et⟩
        · have eg : ∀ (i : Nat) (h : i < ns.length), ns.getD i 0 = ns[i] := fun i h => by simp [List.getD, h]
          rw [hm j, hlen]
          constructor
          · rintro ⟨i, h1, h2⟩
            rw [← h2, eg i h1]; exact List.getElem_mem h1
          · intro q
            obtain ⟨i, h1, h2⟩ := List.getElem_of_mem q
            exact ⟨i, h1, (eg i h1).trans h2⟩
        · refine mv.heap b o (fun q => ?_) (Heap.get?_push_of_some _ (Heap.get?_push_of_some _ e))
          rcases List.mem_cons.mp q with q | q
          · exact absurd q (Nat.ne_of_lt hb)
          · rw [List.mem_singleton, Heap.size_push] at q
            exact absurd q (Nat.ne_of_lt (Nat.lt_succ_of_lt hb))
      · cases r₂ with
        | error e => exact hr₂
        | ok fl₂ =>
          cases fl₂ with
          | ret r =>
            obtain ⟨rfl, m, tk, es, ep, t, rfl, L, z, hm, hk, ht⟩ := hr₂
            repeat (any_goals (first | assumption | wp_step))
            exact h _ _ es ep t L z hm hk ht
          | _ => exact hr₂.elim
    | _ => exact hr.elim
end
end SetX
namespace SetX
open PySem PySem.Spec PyProof.Rows
set_option maxRecDepth 100000
theorem entry_set_iter : entryFor table "set.__iter__" = some Builtin.«frozenset.__iter__» := entryFor_alias (id' := "frozenset.__iter__") (by kernel_rfl) rfl (by decide +kernel) (by kernel_rfl)
theorem slot_si_next : Slot "set_iterator" "__next__" "set_iterator.__next__" :=
  .of (owner := "set_iterator") (n := "__next__") (by rw [typeLookup_type, builtinLookup_eq_fast]; kernel_rfl) (by decide +kernel)
    (by decide +kernel) (by decide +kernel) (by first | exact .inl (by decide +kernel) | exact .inr (by decide +kernel))
    (by rw [isSubtype_type]; kernel_rfl)
theorem slot_si_iter : Slot "set_iterator" "__iter__" "set_iterator.__iter__" :=
  .of (owner := "set_iterator") (n := "__iter__") (by rw [typeLookup_type, builtinLookup_eq_fast]; kernel_rfl) (by decide +kernel)
    (by decide +kernel) (by decide +kernel) (by first | exact .inl (by decide +kernel) | exact .inr (by decide +kernel))
    (by rw [isSubtype_type]; kernel_rfl)
theorem entry_si_next : entryFor table "set_iterator.__next__" = some Builtin.«set_iterator.__next__» := entryFor_of_tree (by kernel_rfl)
theorem entry_si_iter : entryFor table "set_iterator.__iter__" = some Builtin.«dict_keyiterator.__iter__» := entryFor_alias (id' := "dict_keyiterator.__iter__") (by kernel_rfl) rfl (by decide +kernel) (by kernel_rfl)
theorem args_si_next (a : Value) : argsOk "set_iterator.__next__" ⟨[a], []⟩ := by unfold argsOk; kernel_rfl
theorem args_si_iter (a : Value) : argsOk "set_iterator.__iter__" ⟨[a], []⟩ := by unfold argsOk; kernel_rfl
section
variable {prog : Program} {w : World} {A : Around} {E : Value → Shared → Prop} {s : Shared}
theorem chooseW {M : Model} {src : Source} {n : Nat} {Q : Nat → Shared → Prop} (hn : n ≠ 0) (h : ∀ i d, i < n → Q i { s with drawn := d }) : wpAny M A (choose src n) Q E s :=
  fun _ _ _ => ⟨hn, h _ _ (Nat.mod_lt _ (Nat.pos_of_ne_zero hn))⟩
theorem drawW {M : Model} {α : Type} : ∀ (n : Nat) (xs : List α) (s : Shared) (Q : List α → Shared → Prop), xs.length = n → (∀ ys d, ys.Perm xs → Q ys { s with drawn := d }) → wpAny M A (drawOrder n xs) Q E s
  | 0, xs, s, Q, e, h => by
    have : xs = [] := List.length_eq_zero_iff.mp e
    subst this
    exact wpAny_pure (h [] s.drawn (List.Perm.refl _))
  | n + 1, [], s, Q, e, h => by simp at e
  | n + 1, x :: xs, s, Q, e, h => by
    unfold drawOrder
    refine wpAny_bind (chooseW (by simp) fun i d hi => ?_)
    rw [List.getElem?_eq_getElem hi]
    dsimp only
    refine wpAny_bind (drawW n _ _ _ (by rw [List.length_eraseIdx, if_pos hi]; omega) fun ys d' p => ?_)
    exact wpAny_pure (h _ _ ((p.cons _).trans (erase_perm _ _ hi)))
abbrev itO (f : Value) (i : Nat) (a : Addr) (n ep : Nat) : Obj := { cls := .type "set_iterator", data := .fields #[f, rawInt i, .ref a, rawInt n, rawInt ep] }
variable {a : Addr} {es : Array (Int × Value)} {ep : Nat} {t : SetTable}
theorem drawnW {Q : Bool → Shared → Prop} (S : SetL w s.heap a es ep t) (h : Q (!byText w && (!t.plain && decide (es.size > 1))) s) : wpAny (model prog w) A (setDrawn a) Q E s := by
  unfold setDrawn
  refine wpAny_bind (wpAny_setState_of S.here rfl S.fit ?_)
  unfold setsByText
  refine wpAny_bind (wpAny_bind (wpAny_askSetting (wpAny_pure ?_)))
  exact wpAny_pure h
/-- what the iterator gives by its slots -/
theorem nextText {slot i : Nat} {Q : Option (Value × Nat) → Shared → Prop} (S : SetL w s.heap a es ep t) (ht : byText w = true)
    (h : Q (((pickOrder (w.params.setOrder a ep) es)[i]?).map fun e => (e.2, slot)) s) : wpAny (model prog w) A (setNext a slot i ep) Q E s := by
  unfold setNext
  refine wpAny_bind (wpAny_setState_of S.here rfl S.fit ?_)
  unfold setsByText
  refine wpAny_bind (wpAny_bind (wpAny_askSetting (wpAny_pure ?_)))
  have ht' : (model prog w).w.params.followText "set-order" = true := ht
  dsimp only
  rw [if_pos ht', if_neg (by simp)]
  refine wpAny_bind ?_
  unfold setWalk
  refine wpAny_bind (wpAny_setState_of S.here rfl S.fit ?_)
  unfold setsByText
  refine wpAny_bind (wpAny_bind (wpAny_askSetting (wpAny_pure ?_)))
  dsimp only
  rw [if_pos ht']
  refine wpAny_bind (wpAny_askSetting (wpAny_pure ?_))
  exact wpAny_pure h
theorem nextLed {slot i : Nat} {Q : Option (Value × Nat) → Shared → Prop} (S : SetL w s.heap a es ep t) (ht : byText w = false) (hd : (!t.plain && decide (es.size > 1)) = false)
    (h : Q (match es[SetTable.below t.place slot]?, t.place[SetTable.below t.place slot]? with
      | some (_, x), some j => some (x, j + 1)
      | _, _ => none) s) : wpAny (model prog w) A (setNext a slot i ep) Q E s := by
  unfold setNext
  refine wpAny_bind (wpAny_setState_of S.here rfl S.fit ?_)
  unfold setsByText
  refine wpAny_bind (wpAny_bind (wpAny_askSetting (wpAny_pure ?_)))
  have ht' : (model prog w).w.params.followText "set-order" = false := ht
  dsimp only
  rw [ht']
  have hl : t.led = true := by rw [S.led, ht]; rfl
  rw [if_neg Bool.false_ne_true]
  show wpAny _ _ (if (!t.plain && decide (es.size > 1)) = true then _ else _) _ _ s
  rw [hd, if_neg Bool.false_ne_true]
  show wpAny _ _ ((if (!t.led && !es.isEmpty) = true then unsupported _ else pure ()) >>= _) _ _ s
  rw [hl, if_neg (by simp)]
  refine wpAny_bind (wpAny_pure ?_)
  exact wpAny_pure h
/-- one item by slots -/
theorem itemSlot {I : Addr} {slot i nx : Nat} {x : Value} {Q : Option Value → Shared → Prop} (S : SetL w s.heap a es ep t) (hI : s.heap.get? I = some (itO (rawInt slot) i a es.size ep))
    (hn : ∀ (A' : Around) (E' : Value → Shared → Prop) (Q' : Option (Value × Nat) → Shared → Prop), Q' (some (x, nx)) s → wpAny (model prog w) A' (setNext a slot i ep) Q' E' s)
    (hQ : ∀ m, m.get? I = some (itO (rawInt nx) (i + 1) a es.size ep) → Heap.SameBut I s.heap m → Q (some x) { s with heap := m }) : wpAny (model prog w) A (pyNext (.ref I)) Q E s := by
  have hT : s.TypeIs (.ref I) "set_iterator" := ⟨_, hI, rfl⟩
  unfold pyNext
  refine wpAny_bind (wpAny_attempt (wpAny_callSpecial?_slot (name := Str.ofString "__next__") hT slot_si_next (wpAny_call_entry slot_si_next hT entry_si_next ?_ (args_si_next _))))
  show wpAny _ _ (fieldsOf (.ref I) >>= _) _ _ s
  refine wpAny_bind (wpAny_fieldsOf hI rfl ?_)
  show wpAny _ _ (setEntries a >>= _) _ _ s
  refine wpAny_bind (wpAny_setEntries_of S.here rfl S.fit ?_)
  rw [if_neg (by simp)]
  show wpAny _ _ (setNext a slot i ep >>= _) _ _ s
  refine wpAny_bind (hn _ _ _ ?_)
  show wpAny _ _ (setField (.ref I) 0 (rawInt nx) >>= _) _ _ s
  refine wpAny_bind (wpAny_setField hI rfl (by simp) ?_)
  have g1 : (s.heap.update I (Obj.mapFields (·.setIfInBounds 0 (rawInt nx)))).get? I = some (itO (rawInt nx) i a es.size ep) := Heap.get?_update_self _ hI rfl
  refine wpAny_bind (wpAny_setField g1 rfl (by simp) ?_)
  have g2 := Heap.get?_update_self (Obj.mapFields (·.setIfInBounds 1 (rawInt ((i : Int) + 1)))) g1 rfl
  exact wpAny_pure ⟨_, rfl, wpAny_pure (hQ _ g2 ((Heap.SameBut.update ..).trans (Heap.SameBut.update ..)))⟩
/-- the end, where the first field is no tuple -/
theorem endSlot {I : Addr} {slot i : Nat} {Q : Option Value → Shared → Prop} (hh : A.handled = none) (S : SetL w s.heap a es ep t) (hI : s.heap.get? I = some (itO (rawInt slot) i a es.size ep))
    (hn : ∀ (A' : Around) (E' : Value → Shared → Prop) (Q' : Option (Value × Nat) → Shared → Prop), Q' none s → wpAny (model prog w) A' (setNext a slot i ep) Q' E' s)
    (hQ : ∀ m, Heap.ExtBut I s.heap m → Q none { s with heap := m }) : wpAny (model prog w) A (pyNext (.ref I)) Q E s := by
  have hT : s.TypeIs (.ref I) "set_iterator" := ⟨_, hI, rfl⟩
  unfold pyNext
  refine wpAny_bind (wpAny_attempt (wpAny_callSpecial?_slot (name := Str.ofString "__next__") hT slot_si_next (wpAny_call_entry slot_si_next hT entry_si_next ?_ (args_si_next _))))
  show wpAny _ _ (fieldsOf (.ref I) >>= _) _ _ s
  refine wpAny_bind (wpAny_fieldsOf hI rfl ?_)
  show wpAny _ _ (setEntries a >>= _) _ _ s
  refine wpAny_bind (wpAny_setEntries_of S.here rfl S.fit ?_)
  rw [if_neg (by simp)]
  show wpAny _ _ (setNext a slot i ep >>= _) _ _ s
  refine wpAny_bind (hn _ _ _ ?_)
  show wpAny _ _ (setField (.ref I) 2 .none >>= _) _ _ s
  refine wpAny_bind (wpAny_setField hI rfl (by simp) ?_)
  show wpAny _ _ (newExc (.type "StopIteration") [] >>= _) _ _ _
  refine wpAny_bind ?_
  simp only [newExc, newTuple]
  refine wpAny_bind (wpAny_newObj_type ?_ (by size_fits))
  refine wpAny_bind (m := firstArgMember _ _) (wpAny_of_eq (a := Value.none) (by first | rfl | (simp only [firstArgMember]; rfl)) ?_)
  refine wpAny_newObj_type ?_ (by size_fits)
  simp only [raiseNew]
  refine wpAny_bind (wpAny_handled ?_)
  first | rw [show A.in1.handled = none from hh] | rw [hh]
  refine wpAny_bind (wpAny_pure (wpAny_throw ?_))
  exact wpAny_bind (wpAny_isInstance (T := "StopIteration") (b := true) ⟨_, Heap.get?_push_size _ rfl, rfl⟩ isSubtype_stop (wpAny_pure (hQ _ (((Heap.SameBut.update ..).extBut.push _).push _))))
end
end SetX
namespace SetX
open PySem PySem.Spec PyProof.Rows
set_option maxRecDepth 100000
section
variable {prog : Program} {w : World} {A : Around} {E : Value → Shared → Prop} {s : Shared} {a : Addr} {es : Array (Int × Value)} {ep : Nat} {t : SetTable}
/-- one item of a drawn order -/
theorem itemDrawn {I T : Addr} {i p : Nat} {x : Int × Value} {places : List Nat} {o : Obj} {nT : Nat} {Q : Option Value → Shared → Prop} (S : SetL w s.heap a es ep t) (hI : s.heap.get? I = some (itO (.ref T) i a es.size ep))
    (hT : s.heap.get? T = some o) (hd : o.data = .seq (places.map fun (i : Nat) => rawInt i).toArray nT) (hp : places[i]? = some p) (hx : es[p]? = some x)
    (hQ : ∀ m, m.get? I = some (itO (.ref T) (i + 1) a es.size ep) → Heap.SameBut I s.heap m → Q (some x.2) { s with heap := m }) : wpAny (model prog w) A (pyNext (.ref I)) Q E s := by
  have hY : s.TypeIs (.ref I) "set_iterator" := ⟨_, hI, rfl⟩
  unfold pyNext
  refine wpAny_bind (wpAny_attempt (wpAny_callSpecial?_slot (name := Str.ofString "__next__") hY slot_si_next (wpAny_call_entry slot_si_next hY entry_si_next ?_ (args_si_next _))))
  show wpAny _ _ (fieldsOf (.ref I) >>= _) _ _ s
  refine wpAny_bind (wpAny_fieldsOf hI rfl ?_)
  show wpAny _ _ (setEntries a >>= _) _ _ s
  refine wpAny_bind (wpAny_setEntries_of S.here rfl S.fit ?_)
  rw [if_neg (by simp)]
  show wpAny _ _ (seqItems? (.ref T) >>= _) _ _ s
  refine wpAny_bind (wpAny_seqItems hT hd ?_)
  have e : (places.map fun (i : Nat) => rawInt i).toArray[((i : Nat) : Int).toNat]? = some (rawInt p) := by
    rw [Int.toNat_natCast, List.getElem?_toArray, List.getElem?_map, hp]
    rfl
  dsimp only
  rw [e]
  show wpAny _ _ (setNextDrawn a ((p : Int)).toNat ((ep : Int)).toNat >>= _) _ _ s
  rw [Int.toNat_natCast, Int.toNat_natCast]
  refine wpAny_bind ?_
  unfold setNextDrawn
  refine wpAny_bind (wpAny_setState_of S.here rfl S.fit ?_)
  dsimp only
  rw [if_neg (by simp)]
  rw [hx]
  refine wpAny_pure ?_
  show wpAny _ _ (setField (.ref I) 1 (rawInt ((i : Int) + 1)) >>= _) _ _ s
  refine wpAny_bind (wpAny_setField hI rfl (by simp) ?_)
  have g2 := Heap.get?_update_self (Obj.mapFields (·.setIfInBounds 1 (rawInt ((i : Int) + 1)))) hI rfl
  exact wpAny_pure ⟨_, rfl, wpAny_pure (hQ _ g2 (Heap.SameBut.update ..))⟩
theorem endDrawn {I T : Addr} {i : Nat} {places : List Nat} {o : Obj} {nT : Nat} {Q : Option Value → Shared → Prop} (hh : A.handled = none) (S : SetL w s.heap a es ep t) (hI : s.heap.get? I = some (itO (.ref T) i a es.size ep))
    (hT : s.heap.get? T = some o) (hd : o.data = .seq (places.map fun (i : Nat) => rawInt i).toArray nT) (hp : places[i]? = none)
    (hQ : ∀ m, Heap.ExtBut I s.heap m → Q none { s with heap := m }) : wpAny (model prog w) A (pyNext (.ref I)) Q E s := by
  have hY : s.TypeIs (.ref I) "set_iterator" := ⟨_, hI, rfl⟩
  unfold pyNext
  refine wpAny_bind (wpAny_attempt (wpAny_callSpecial?_slot (name := Str.ofString "__next__") hY slot_si_next (wpAny_call_entry slot_si_next hY entry_si_next ?_ (args_si_next _))))
  show wpAny _ _ (fieldsOf (.ref I) >>= _) _ _ s
  refine wpAny_bind (wpAny_fieldsOf hI rfl ?_)
  show wpAny _ _ (setEntries a >>= _) _ _ s
  refine wpAny_bind (wpAny_setEntries_of S.here rfl S.fit ?_)
  rw [if_neg (by simp)]
  show wpAny _ _ (seqItems? (.ref T) >>= _) _ _ s
  refine wpAny_bind (wpAny_seqItems hT hd ?_)
  have e : (places.map fun (i : Nat) => rawInt i).toArray[((i : Nat) : Int).toNat]? = none := by
    rw [Int.toNat_natCast, List.getElem?_toArray, List.getElem?_map, hp]
    rfl
  dsimp only
  rw [e]
  show wpAny _ _ (setField (.ref I) 0 (rawInt 0) >>= _) _ _ s
  refine wpAny_bind (wpAny_setField hI rfl (by simp) ?_)
  have g1 : (s.heap.update I (Obj.mapFields (·.setIfInBounds 0 (rawInt 0)))).get? I = some (itO (rawInt 0) i a es.size ep) := Heap.get?_update_self _ hI rfl
  refine wpAny_bind (wpAny_setField g1 rfl (by simp) ?_)
  show wpAny _ _ (newExc (.type "StopIteration") [] >>= _) _ _ _
  refine wpAny_bind ?_
  simp only [newExc, newTuple]
  refine wpAny_bind (wpAny_newObj_type ?_ (by size_fits))
  refine wpAny_bind (m := firstArgMember _ _) (wpAny_of_eq (a := Value.none) (by first | rfl | (simp only [firstArgMember]; rfl)) ?_)
  refine wpAny_newObj_type ?_ (by size_fits)
  simp only [raiseNew]
  refine wpAny_bind (wpAny_handled ?_)
  first | rw [show A.in1.handled = none from hh] | rw [hh]
  refine wpAny_bind (wpAny_pure (wpAny_throw ?_))
  exact wpAny_bind (wpAny_isInstance (T := "StopIteration") (b := true) ⟨_, Heap.get?_push_size _ rfl, rfl⟩ isSubtype_stop (wpAny_pure (hQ _ ((((Heap.SameBut.update ..).trans (Heap.SameBut.update ..)).extBut.push _).push _))))
theorem selfIter {I : Addr} {f : Value} {i n : Nat} {Q : Value → Shared → Prop} (hI : s.heap.get? I = some (itO f i a n ep)) (h : Q (.ref I) s) : wpAny (model prog w) A (pyIter (.ref I)) Q E s := by
  have hY : s.TypeIs (.ref I) "set_iterator" := ⟨_, hI, rfl⟩
  refine wpAny_pyIter_slot hY slot_si_iter (wpAny_call_entry slot_si_iter hY entry_si_iter ?_ (args_si_iter _))
  show wpAny _ _ (ret (.ref I)) _ _ s
  exact wpAny_pure ⟨_, rfl, "set_iterator", _, hY, slot_si_next.lookup, h⟩
/-- what stays as it is but at some places -/
theorem moved_of {I : Addr} {m : Heap} (h : Heap.ExtBut I s.heap m) : Moved [I] (fun a b : Array GenState => b = a) s { s with heap := m } :=
  ⟨fun b o hb e => h b o (fun z => hb (by simp [z])) e, rfl, rfl, rfl, Nat.le_refl _⟩
/-- a set walked: three ways, one promise -/
structure Wk (prog : Program) (w : World) (I : Addr) (fp : List Addr) (vs : List Value) (St : Nat → Shared → Prop) : Prop where
  wk : ∀ A : Around, A.handled = none → WalksS prog w A I fp [I] (fun a b => b = a) vs.length (fun i v => vs[i]? = some v) St
theorem wk_text {I : Addr} (ne : I ≠ a) (es : Array (Int × Value)) (ep : Nat) (t : SetTable) (ht : byText w = true) :
    Wk prog w I [I, a] ((pickOrder (w.params.setOrder a ep) es).toList.map (·.2)) (fun i s => (∃ slot : Nat, s.heap.get? I = some (itO (rawInt slot) i a es.size ep)) ∧ SetL w s.heap a es ep t) := by
  refine ⟨fun A hh => ⟨fun b hb => by simp at hb; simp [hb], fun _ => rfl, fun a b c x y => y.trans x, ?_, ?_, ?_, ?_⟩⟩
  · rintro i s h' tk ⟨⟨slot, hI⟩, S⟩ _ hk
    exact ⟨⟨slot, hk I (by simp) _ hI⟩, S.keep fun o e => hk a (by simp) o e⟩
  · rintro i s Q E hi ⟨⟨slot, hI⟩, S⟩ hQ
    have hi' : i < (pickOrder (w.params.setOrder a ep) es).size := by simpa using hi
    refine itemSlot (x := ((pickOrder (w.params.setOrder a ep) es)[i]).2) (nx := slot) S hI (fun A' E' Q' q => nextText S ht ?_) fun m g sb => ?_
    · rw [Array.getElem?_eq_getElem hi']; exact q
    · refine hQ _ _ ?_ ⟨⟨slot, g⟩, S.keep fun o e => by rw [sb.2 a ne.symm]; exact e⟩ (moved_of sb.extBut)
      rw [List.getElem?_map, Array.getElem?_toList, Array.getElem?_eq_getElem hi']
      rfl
  · rintro s Q E ⟨⟨slot, hI⟩, S⟩ hQ
    refine endSlot hh S hI (fun A' E' Q' q => nextText S ht ?_) fun m sb => hQ _ (moved_of sb)
    rw [Array.getElem?_eq_none (by simp)]
    exact q
  · rintro i s Q E ⟨⟨slot, hI⟩, S⟩ hQ
    exact selfIter hI hQ
theorem wk_led {I : Addr} (ne : I ≠ a) (es : Array (Int × Value)) (ep : Nat) (t : SetTable) (ht : byText w = false) (hd : (!t.plain && decide (es.size > 1)) = false) (hr : Rise t.place.toList) :
    Wk prog w I [I, a] (es.toList.map (·.2)) (fun i s => (∃ slot : Nat, SetTable.below t.place slot = i ∧ s.heap.get? I = some (itO (rawInt slot) i a es.size ep)) ∧ SetL w s.heap a es ep t) := by
  have hz : ∀ {h : Heap}, SetL w h a es ep t → t.place.size = es.size := fun S => by
    have := S.fit
    simp [SetTable.fits] at this
    exact this.1
  refine ⟨fun A hh => ⟨fun b hb => by simp at hb; simp [hb], fun _ => rfl, fun a b c x y => y.trans x, ?_, ?_, ?_, ?_⟩⟩
  · rintro i s h' tk ⟨⟨slot, hb, hI⟩, S⟩ _ hk
    exact ⟨⟨slot, hb, hk I (by simp) _ hI⟩, S.keep fun o e => hk a (by simp) o e⟩
  · rintro i s Q E hi ⟨⟨slot, hb, hI⟩, S⟩ hQ
    have hi' : i < es.size := by simpa using hi
    have hp : i < t.place.size := by rw [hz S]; exact hi'
    refine itemSlot (x := es[i].2) (nx := t.place[i] + 1) S hI (fun A' E' Q' q => nextLed S ht hd ?_) fun m g sb => ?_
    · rw [hb, Array.getElem?_eq_getElem hi', Array.getElem?_eq_getElem hp]; exact q
    · refine hQ _ _ ?_ ⟨⟨_, below_next hr hp, g⟩, S.keep fun o e => by rw [sb.2 a ne.symm]; exact e⟩ (moved_of sb.extBut)
      rw [List.getElem?_map, Array.getElem?_toList, Array.getElem?_eq_getElem hi']
      rfl
  · rintro s Q E ⟨⟨slot, hb, hI⟩, S⟩ hQ
    refine endSlot hh S hI (fun A' E' Q' q => nextLed S ht hd ?_) fun m sb => hQ _ (moved_of sb)
    rw [hb, Array.getElem?_eq_none (by simp)]
    exact q
  · rintro i s Q E ⟨⟨slot, hb, hI⟩, S⟩ hQ
    exact selfIter hI hQ
theorem wk_drawn {I T : Addr} (ne : I ≠ a) (nT : I ≠ T) (es : Array (Int × Value)) (ep : Nat) (t : SetTable) (places : List Nat) (hp : places.Perm (List.range es.size)) :
    Wk prog w I [I, a, T] (places.filterMap fun p => es[p]?.map (·.2)) (fun i s => (s.heap.get? I = some (itO (.ref T) i a es.size ep) ∧ ∃ n, s.heap.get? T = some { cls := .type "tuple", data := .seq (places.map fun (i : Nat) => rawInt i).toArray n }) ∧ SetL w s.heap a es ep t) := by
  have hin : ∀ p ∈ places, p < es.size := fun p h => List.mem_range.mp (hp.mem_iff.mp h)
  have el : (places.filterMap fun p => es[p]?.map (·.2)) = places.map fun p => ((es[p]?).getD (0, .none)).2 := by
    have : ∀ l : List Nat, (∀ p ∈ l, p < es.size) → (l.filterMap fun p => es[p]?.map (·.2)) = l.map fun p => ((es[p]?).getD (0, .none)).2 := by
      intro l
      induction l with
      | nil => intro _; rfl
      | cons p l ih =>
        intro h
        rw [List.filterMap_cons, Array.getElem?_eq_getElem (h p (.head _)), List.map_cons, ih fun q hq => h q (.tail _ hq), Array.getElem?_eq_getElem (h p (.head _))]
        rfl
    exact this places hin
  refine ⟨fun A hh => ⟨fun b hb => by simp at hb; simp [hb], fun _ => rfl, fun a b c x y => y.trans x, ?_, ?_, ?_, ?_⟩⟩
  · rintro i s h' tk ⟨⟨hI, n, hT⟩, S⟩ _ hk
    exact ⟨⟨hk I (by simp) _ hI, n, hk T (by simp) _ hT⟩, S.keep fun o e => hk a (by simp) o e⟩
  · rintro i s Q E hi ⟨⟨hI, n, hT⟩, S⟩ hQ
    have hi' : i < places.length := by rw [el] at hi; simpa using hi
    have hpi := hin _ (List.getElem_mem hi')
    refine itemDrawn (p := places[i]) (x := es[places[i]]) S hI hT rfl (List.getElem?_eq_getElem hi') (Array.getElem?_eq_getElem hpi) fun m g sb => ?_
    refine hQ _ _ ?_ ⟨⟨g, n, by rw [sb.2 T nT.symm]; exact hT⟩, S.keep fun o e => by rw [sb.2 a ne.symm]; exact e⟩ (moved_of sb.extBut)
    rw [el, List.getElem?_map, List.getElem?_eq_getElem hi', Option.map_some, Array.getElem?_eq_getElem hpi]
    rfl
  · rintro s Q E ⟨⟨hI, n, hT⟩, S⟩ hQ
    exact endDrawn hh S hI hT rfl (List.getElem?_eq_none (by rw [el]; simp)) fun m sb => hQ _ (moved_of sb)
  · rintro i s Q E ⟨⟨hI, n, hT⟩, S⟩ hQ
    exact selfIter hI hQ
end
end SetX
namespace SetX
open PySem PySem.Spec PyProof.Rows
set_option maxRecDepth 100000
theorem subset_ : isSubtype (.type "set") (.type "set") = pure true := by rw [isSubtype_type]; kernel_rfl
theorem set_len_look : typeLookup (.type "set") "__len__" = pure (some (.builtin "set.__len__")) := F.slot_set_len.lookup
section
variable {prog : Program} {w : World} {A : Around} {E : Value → Shared → Prop} {s : Shared} {a : Addr} {es : Array (Int × Value)} {ep : Nat} {t : SetTable}
theorem drawn_perm {α : Type} (es : Array α) {places : List Nat} (hp : places.Perm (List.range es.size)) : (places.filterMap fun p => es[p]?).Perm es.toList :=
  (hp.filterMap _).trans (by rw [filterMap_getElem?_range])
theorem iterL {Q : Value → Shared → Prop} (S : SetL w s.heap a es ep t)
    (h : ∀ (I : Addr) (fp : List Addr) (vs : List Value) (St : Nat → Shared → Prop) (m : Heap) (d : Drawn), Wk prog w I fp vs St → St 0 { s with heap := m, drawn := d } → vs.Perm (es.toList.map (·.2)) →
      (∀ b o, s.heap.get? b = some o → m.get? b = some o) → (∀ b ∈ fp, b = a ∨ s.heap.objs.size ≤ b) → s.heap.objs.size ≤ I → SetL w m a es ep t → Q (.ref I) { s with heap := m, drawn := d }) : wpAny (model prog w) A (pyIter (.ref a)) Q E s := by
  have hT : s.TypeIs (.ref a) "set" := ⟨_, S.here, rfl⟩
  have ha : a < s.heap.objs.size := Heap.lt_size S.here
  refine wpAny_pyIter_slot hT F.slot_set_iter (wpAny_call_entry F.slot_set_iter hT entry_set_iter ?_ (F.args_set_iter_1 _))
  show wpAny _ _ (Builtin.Frozenset.sizeOf a >>= _) _ _ s
  refine wpAny_bind ?_
  unfold Builtin.Frozenset.sizeOf
  refine wpAny_bind (wpAny_setEntries_of S.here rfl S.fit (wpAny_pure ?_))
  refine wpAny_bind (drawnW S ?_)
  dsimp only
  cases hb : (!byText w && (!t.plain && decide (es.size > 1))) with
  | true =>
    simp only [↓reduceIte]
    refine wpAny_bind (drawW es.size (List.range es.size) s _ (by simp) fun places d hp => ?_)
    refine wpAny_bind (wpAny_newTuple ?_ (by rw [List.length_map, hp.length_eq, List.length_range]; exact fits_of_scanBound S.few))
    have S1 : SetL w (s.heap.push { cls := .type "tuple", data := .seq (places.map fun (i : Nat) => rawInt i).toArray }) a es ep t := S.keep fun o e => Heap.get?_push_of_some _ e
    refine wpAny_bind (wpAny_setEpoch_of S1.here rfl S1.fit ?_)
    refine wpAny_bind (wpAny_newObj_type ?_)
    have g := Heap.get?_push_size (s.heap.push { cls := .type "tuple", data := .seq (places.map fun (i : Nat) => rawInt i).toArray }) (o := itO (.ref s.heap.objs.size) 0 a es.size ep) rfl
    have gT : (s.heap.push { cls := .type "tuple", data := .seq (places.map fun (i : Nat) => rawInt i).toArray }).get? s.heap.objs.size = some { cls := .type "tuple", data := .seq (places.map fun (i : Nat) => rawInt i).toArray } := Heap.get?_push_size _ rfl
    have sz : (s.heap.push { cls := .type "tuple", data := .seq (places.map fun (i : Nat) => rawInt i).toArray }).objs.size = s.heap.objs.size + 1 := Heap.size_push ..
    refine wpAny_pure ⟨_, rfl, "set_iterator", _, ⟨_, g, rfl⟩, slot_si_next.lookup, ?_⟩
    refine h _ _ _ _ _ d (wk_drawn (T := s.heap.objs.size) (by rw [sz]; exact Nat.ne_of_gt (Nat.lt_succ_of_lt ha)) (by rw [sz]; exact Nat.ne_of_gt (Nat.lt_succ_self _)) es ep t places hp) ⟨⟨g, 0, Heap.get?_push_of_some _ gT⟩, S1.keep fun o e => Heap.get?_push_of_some _ e⟩ ?_
      (fun b o e => Heap.get?_push_of_some _ (Heap.get?_push_of_some _ e)) (fun b hb => ?_) (by rw [sz]; exact Nat.le_succ _) (S1.keep fun o e => Heap.get?_push_of_some _ e)
    · have := (drawn_perm es hp).map (·.2)
      rw [List.map_filterMap] at this
      exact this
    · rw [sz] at hb
      rcases List.mem_cons.mp hb with q | q
      · exact .inr (by rw [q]; exact Nat.le_succ _)
      · rcases List.mem_cons.mp q with q | q
        · exact .inl q
        · rw [List.mem_singleton] at q
          exact .inr (by rw [q]; exact Nat.le_refl _)
  | false =>
    simp only [Bool.false_eq_true, ↓reduceIte]
    refine wpAny_bind (wpAny_pure ?_)
    refine wpAny_bind (wpAny_setEpoch_of S.here rfl S.fit ?_)
    refine wpAny_bind (wpAny_newObj_type ?_)
    have g := Heap.get?_push_size s.heap (o := itO (rawInt 0) 0 a es.size ep) rfl
    have S1 : SetL w (s.heap.push (itO (rawInt 0) 0 a es.size ep)) a es ep t := S.keep fun o e => Heap.get?_push_of_some _ e
    have ne : s.heap.objs.size ≠ a := Nat.ne_of_gt ha
    have fpk : ∀ b ∈ [s.heap.objs.size, a], b = a ∨ s.heap.objs.size ≤ b := fun b hb => by
      rcases List.mem_cons.mp hb with q | q
      · exact .inr (by rw [q]; exact Nat.le_refl _)
      · rw [List.mem_singleton] at q
        exact .inl q
    refine wpAny_pure ⟨_, rfl, "set_iterator", _, ⟨_, g, rfl⟩, slot_si_next.lookup, ?_⟩
    have e0 : ({ s with heap := s.heap.push (itO (rawInt 0) 0 a es.size ep) } : Shared) = { s with heap := s.heap.push (itO (rawInt 0) 0 a es.size ep), drawn := s.drawn } := rfl
    cases ht : byText w with
    | true => exact h _ _ _ _ _ s.drawn (wk_text ne es ep t ht) ⟨⟨0, g⟩, S1⟩ ((pickOrder_perm _ es).map _) (fun b o e => Heap.get?_push_of_some _ e) fpk (Nat.le_refl _) S1
    | false =>
      have hd : (!t.plain && decide (es.size > 1)) = false := by rw [ht] at hb; simpa using hb
      have hr : Rise t.place.toList := by
        cases hp : t.plain with
        | true => exact S.good hp
        | false =>
          rw [hp] at hd
          have hz : es.size ≤ 1 := by simpa using hd
          have hf : t.place.size = es.size := by
            have := S.fit
            simp [SetTable.fits] at this
            exact this.1
          match hl : t.place.toList with
          | [] => exact List.Pairwise.nil
          | [x] => exact List.pairwise_singleton _ _
          | x :: y :: r =>
            have : t.place.toList.length = es.size := by simpa using hf
            rw [hl] at this
            simp at this
            omega
      exact h _ _ _ _ _ s.drawn (wk_led ne es ep t ht hd hr) ⟨⟨0, below_zero hr, g⟩, S1⟩ (List.Perm.refl _) (fun b o e => Heap.get?_push_of_some _ e) fpk (Nat.le_refl _) S1
theorem collectL {Q : List Value → Shared → Prop} (hh : A.handled = none) (S : SetL w s.heap a es ep t)
    (h : ∀ (m : Heap) (d : Drawn) (tk : Nat) (vs : List Value), vs.Perm (es.toList.map (·.2)) → (∀ b o, s.heap.get? b = some o → m.get? b = some o) → s.heap.objs.size ≤ m.objs.size → Q vs { s with heap := m, drawn := d, toks := tk }) :
    wpAny (model prog w) A (collect (.ref a)) Q E s := by
  have ha : a < s.heap.objs.size := Heap.lt_size S.here
  unfold collect
  refine wpAny_bind (wpAny_runValue (codeAny_builtin F.entry_proto_collect ?_))
  rw [Around.under_plainId F.plain_proto_collect _]
  show wpAny _ A.in1 (newList [] >>= fun l => again (.builtin "list.__iadd__" ⟨[l, .ref a], []⟩)) _ _ s
  refine wpAny_bind (wpAny_newObj_type ?_)
  refine wpAny_pure ⟨plainId_quiet F.plain_list_iadd _, codeAny_builtin F.entry_list_iadd ?_⟩
  rw [Around.under_plainId F.plain_list_iadd _]
  have g0 : (s.heap.push { cls := .type "list", data := .seq ([] : List Value).toArray }).get? s.heap.objs.size = some { cls := .type "list", data := .seq ([] : List Value).toArray } := Heap.get?_push_size _ rfl
  have S0 : SetL w (s.heap.push { cls := .type "list", data := .seq ([] : List Value).toArray }) a es ep t := S.keep fun o e => Heap.get?_push_of_some _ e
  have sz : (s.heap.push { cls := .type "list", data := .seq ([] : List Value).toArray }).objs.size = s.heap.objs.size + 1 := Heap.size_push ..
  have k0 : ∀ b o, s.heap.get? b = some o → (s.heap.push { cls := .type "list", data := .seq ([] : List Value).toArray }).get? b = some o := fun b o e => Heap.get?_push_of_some _ e
  show wpAny _ A.in1 (Builtin.List.listExtendWith (.ref s.heap.objs.size) (.ref a) (.ref s.heap.objs.size)) _ _ _
  generalize s.heap.push { cls := .type "list", data := .seq ([] : List Value).toArray } = m0 at g0 S0 sz k0 ⊢
  have hT : ∀ {m : Heap} {d : Drawn}, SetL w m a es ep t → ({ s with heap := m, drawn := d } : Shared).TypeIs (.ref a) "set" := fun S => ⟨_, S.here, rfl⟩
  unfold Builtin.List.listExtendWith
  refine wpAny_bind (wpAny_typeOf (hT (d := s.drawn) S0) ?_)
  have q1 : Builtin.List.listSameRef (.ref s.heap.objs.size) (.ref a) = false := by simp [Builtin.List.listSameRef, Nat.ne_of_gt ha]
  have q2 : (Value.type "set" == Value.type "list") = false := by decide
  have q3 : (Value.type "set" == Value.type "tuple") = false := by decide
  simp only [q1, q2, q3, Bool.or_false, Bool.false_eq_true, if_false]
  refine wpAny_bind (iterL (s := { s with heap := m0 }) S0 fun I fp vs St m d W st pe kp fpk hI S1 => ?_)
  refine wpAny_bind (wpAny_holding ?_)
  unfold Builtin.List.listLengthHint
  refine wpAny_bind (wpAny_specialOf (hT S1) set_len_look ?_)
  have hs : splitId "set.__len__" = some ("set", "__len__") := by decide +kernel
  simp only [hs]
  refine wpAny_bind (wpAny_isInstance (hT S1) subset_ ?_)
  simp only [Bool.not_true, Bool.false_eq_true, ↓reduceIte]
  rw [if_pos (by decide +kernel)]
  refine wpAny_bind (wpAny_typeOf (hT S1) ?_)
  refine wpAny_pure ?_
  rw [if_pos (by decide)]
  have nS : s.heap.objs.size ∉ fp := fun q => by
    rcases fpk _ q with z | z
    · exact absurd z (Nat.ne_of_gt ha)
    · have z : m0.objs.size ≤ s.heap.objs.size := z
      rw [sz] at z
      exact absurd z (Nat.not_succ_le_self _)
  have hl : vs.length = es.size := by
    have := pe.length_eq
    simpa using this
  refine wpAny_bind (wpAny_rule (wpAny_bind ?_))
  show wpAny _ _ (updateSeq s.heap.objs.size (·.push .none) >>= fun _ => updateSeq s.heap.objs.size (·.pop)) _ _ _
  have g1 := kp _ _ g0
  refine wpAny_bind (wpAny_updateSeq g1 rfl ?_)
  have g2 := Heap.get?_update_self (Obj.mapSeq (·.push Value.none)) g1 rfl
  refine wpAny_updateSeq (hz := by seq_fits) g2 rfl ?_
  have g3 := Heap.get?_update_self (Obj.mapSeq (·.pop)) g2 rfl
  have o3 : ∀ b o, b ≠ s.heap.objs.size → m.get? b = some o → ((m.update s.heap.objs.size (Obj.mapSeq (·.push Value.none))).update s.heap.objs.size (Obj.mapSeq (·.pop))).get? b = some o :=
    fun b o hb e => (Heap.get?_update_other _ _ (Ne.symm hb)).trans ((Heap.get?_update_other _ _ (Ne.symm hb)).trans e)
  have st3 := (W.wk A.in1.in1 (by simp [hh])).frame 0 _ ((m.update s.heap.objs.size (Obj.mapSeq (·.push Value.none))).update s.heap.objs.size (Obj.mapSeq (·.pop))) s.toks st (Nat.le_refl _) fun b hb o e => o3 b o (fun z => nS (by rw [← z]; exact hb)) e
  generalize (m.update s.heap.objs.size (Obj.mapSeq (·.push Value.none))).update s.heap.objs.size (Obj.mapSeq (·.pop)) = m3 at g3 o3 st3 ⊢
  refine wpAny_pure ⟨plainId_quiet F.plain_extend_loop _, codeAny_extend_loopS (W.wk _ (by simp [hh])) (by rw [hl]; exact fits_of_scanBound S.few) s.heap.objs.size nS _ vs.length 0 _ #[] _ rfl (Nat.zero_le _) st3 g3 (ItemsOf.nil _) fun s' acc c mv g hacc => ?_⟩
  show wpAny _ A (load s.heap.objs.size >>= _) _ _ s'
  refine wpAny_bind (wpAny_load g ?_)
  refine wpAny_pure ?_
  have ev : acc.toList = vs := by
    refine List.ext_getElem? fun j => ?_
    by_cases hj : j < vs.length
    · have hj' : j < acc.size := by rw [hacc.1]; exact hj
      have := hacc.2 j acc[j] (Array.getElem?_eq_getElem hj')
      rw [this, Array.getElem?_toList, Array.getElem?_eq_getElem hj']
    · rw [List.getElem?_eq_none (by rw [Array.length_toList, hacc.1]; omega), List.getElem?_eq_none (by omega)]
  rw [ev]
  obtain ⟨m', g', d', tk', os'⟩ := s'
  have eg : g' = s.gens := mv.gens
  have ed : d' = d := mv.drawn
  have eo : os' = s.os := mv.os
  subst eg; subst ed; subst eo
  refine h m' d' tk' vs pe (fun b o e => mv.heap b o (fun q => ?_) (o3 b o (Nat.ne_of_lt (Heap.lt_size e)) (kp b o (k0 b o e)))) (Nat.le_of_lt (Heap.lt_size g))
  have hb := Heap.lt_size e
  rcases List.mem_cons.mp q with z | z
  · exact absurd z (Nat.ne_of_lt hb)
  · rw [List.mem_singleton] at z
    have y : m0.objs.size ≤ I := hI
    rw [sz, ← z] at y
    exact absurd y (Nat.not_le.mpr (Nat.lt_succ_of_lt hb))
end
end SetX
namespace SetX
open PySem PySem.Spec PyProof.Rows
set_option maxRecDepth 100000
theorem ints_of : ∀ {vs : List Value}, (∀ v ∈ vs, ∃ n t, v = .int n t) → IntsAre vs (vs.map num)
  | [], _ => .nil
  | v :: vs, h => by
    obtain ⟨n, t, rfl⟩ := h v (.head _)
    exact .cons n t (ints_of fun x hx => h x (.tail _ hx))
section
variable {prog : Program} {w : World} {A : Around} {E : Value → Shared → Prop} {s : Shared} {a : Addr} {es : Array (Int × Value)} {ep : Nat} {t : SetTable}
theorem sortedL {Q : Value → Shared → Prop} (hh : A.handled = none) (S : SetL w s.heap a es ep t) (h64 : es.size < 64)
    (h : ∀ (p : Addr) (m : Heap) (d : Drawn) (tk : Nat) (out : Array Value) (n : Nat) (ns : List Int), s.heap.objs.size ≤ p → p < m.objs.size → m.get? p = some (seqObj "list" out n) → IntsAre out.toList ns → ns.Pairwise (· ≤ ·) → ns.Perm (nums es.toList) →
      (∀ b o, s.heap.get? b = some o → m.get? b = some o) → Q (.ref p) { s with heap := m, drawn := d, toks := tk }) : wpAny (model prog w) A (call (.builtin "sorted") [.ref a]) Q E s := by
  refine Calls.call_function_entry kind_sorted plain_sorted entry_sorted (args_sorted1 _) ?_
  unfold Builtin.«sorted»
  refine wpAny_bind (m := checkCount "sorted" 1 1 _) (wpAny_pure ?_)
  refine wpAny_bind (collectL (by simp [hh]) S fun m d tk vs pe kp sz => ?_)
  have hl : vs.length = es.size := by
    have := pe.length_eq
    simpa using this
  have hI : IntsAre vs (vs.map num) := ints_of fun v hv => by
    obtain ⟨e, he, rfl⟩ := List.mem_map.mp (pe.mem_iff.mp hv)
    obtain ⟨n, t, e1, _⟩ := S.all e he
    exact ⟨n, t, e1⟩
  have hn : (vs.map num).Perm (nums es.toList) := by
    have := pe.map num
    rw [List.map_map] at this
    exact this
  refine wpAny_bind (wpAny_newList ?_ (by rw [hl]; exact fits_of_scanBound S.few))
  have ho : (m.push (seqObj "list" vs.toArray 0)).get? m.objs.size = some (seqObj "list" vs.toArray 0) := Heap.get?_push_size _ rfl
  refine wpAny_bind (wpAny_holding (wpAny_call_entry slot_list_sort ⟨_, ho, rfl⟩ entry_list_sort (list_sort_tree ho hI (by rw [hl]; exact h64) fun out ns' a1 a2 a3 => ⟨_, rfl, ?_⟩) (args_list_sort _)))
  obtain ⟨e, he⟩ := sortedHeap_at (vs := vs) (out := out) ho
  refine wpAny_pure ⟨_, rfl, h m.objs.size _ d tk out e ns' sz (Heap.lt_size he) he a1 a3 (a2.trans hn) fun b o hb => ?_⟩
  have hb' := kp b o hb
  have lt := Heap.lt_size hb'
  rw [sortedHeap_old (Nat.ne_of_lt lt) (by rw [size_push']; exact Nat.lt_succ_of_lt lt)]
  exact Heap.get?_push_of_some _ hb'
end
end SetX
set_option Elab.async false
set_option linter.all false
set_option maxRecDepth 100000
set_option maxHeartbeats 4000000
/-! CLASSES WITH DEFAULTS AND KEYWORDS; x in a dict of the module; xs.clear() -/
namespace L2
open PySem PySem.Spec PyProof.Rows
structure FunD (K : PySem.W.Frag) (x qual : Str) (st : Stmt) (f : Addr) (fd : FuncData) (ds : List Value) : Prop where
  ex : ∃ (oc : Value) (od : Option Addr) (kV doc pm : Value) (an : Option Addr) (cdv ct : Value) (osl : Array (Option Value)) (T : Addr) (td : Option Addr) (n : Nat) (ts : Array (Option Value)),
    fd = PySem.W.fnOf x qual (defArgs st) (defBody st) (defScope st) (.ref T) kV doc pm an cdv ct ∧ K.lookup f = some ⟨oc, od, .func fd, osl⟩ ∧ PySem.W.codeIn K cdv qual = true ∧ K.lookup T = some ⟨.type "tuple", td, .seq ds.toArray n, ts⟩
  kp : PySem.W.keepIn K (.ref f) = true
section
variable {P : Program} {w : World} {K : PySem.W.Frag} {mg : Str → Option Value} {base : Heap}
theorem FunD.ok {x qual : Str} {st : Stmt} {f : Addr} {fd : FuncData} {ds : List Value} {N ps : List Str} {k : Nat} {sp : Sp} (F : FunD K x qual st f fd ds) (S : FnScope N ps (defScope st)) (len : ∀ vs H Q E, sp vs H Q E → vs.length = ps.length)
    (hb : ∀ (cdv : Value) (A : Around) (outer : List Env) (s : Shared) (H : Hp) (vs : List V) (Q : VK) (E : XK), Room k (A.deeper (envOfC qual (defScope st) s.heap.objs.size f cdv)) → sp vs H Q E →
      ∃ t, PSs (cxOf CX0 P w K mg base N qual (defScope st) f cdv A outer s H E).nox (defBody st) t ∧ t { nx := fun _ H' => Q .non H', rt := Q } (start N vs) H) : FnOk P w K mg base CX0 (k + 1) f fd ps sp := by
  obtain ⟨oc, od, kV, doc, pm, an, cdv, ct, osl, T, td, n, ts, rfl, lk, hcd, lt⟩ := F.ex
  refine fn_of lk hcd S len fun A outer s H vs Q E hr hsp => ?_
  obtain ⟨t, h, q⟩ := hb cdv A outer s H vs Q E hr hsp
  exact ⟨t, h.nox, q⟩
theorem FunD.binds {x qual : Str} {st : Stmt} {f : Addr} {fd : FuncData} {ds d2 : List Value} {ps : List Str} (F : FunD K x qual st f fd ds)
    (h : ∀ (T : Addr) (kV doc pm : Value) (an : Option Addr) (cdv ct : Value) (us : List Value), (us ++ d2).length = ps.length →
      ∃ k : Option (Array Value) → Sem (List (Str × Value)), bindArgs (PySem.W.fnOf x qual (defArgs st) (defBody st) (defScope st) (.ref T) kV doc pm an cdv ct) ⟨us, []⟩ = seqItems? (.ref T) >>= k ∧ k (some ds.toArray) = pure (ps.zip (us ++ d2))) : Binds K fd ps d2 := by
  obtain ⟨oc, od, kV, doc, pm, an, cdv, ct, osl, T, td, n, ts, rfl, lk, hcd, lt⟩ := F.ex
  intro s us KX hl
  obtain ⟨k, h1, h2⟩ := h T kV doc pm an cdv ct us hl
  exact BindsTo.of_defaults rfl (KX _ _ lt) rfl h1 h2
theorem FunD.kbinds {x qual : Str} {st : Stmt} {f : Addr} {fd : FuncData} {ds : List Value} {ps ks : List Str} {g : List Value → List Value → List Value} {gV : List V → List V → List V} (F : FunD K x qual st f fd ds)
    (rel : ∀ {vs : List V} {us : List Value} {zs : List V} {ws : List Value}, Vals vs us → Vals zs ws → Vals (gV vs zs) (g us ws))
    (h : ∀ (T : Addr) (kV doc pm : Value) (an : Option Addr) (cdv ct : Value) (us ws : List Value), (g us ws).length = ps.length →
      ∃ k : Option (Array Value) → Sem (List (Str × Value)), bindArgs (PySem.W.fnOf x qual (defArgs st) (defBody st) (defScope st) (.ref T) kV doc pm an cdv ct) ⟨us, ks.zip ws⟩ = seqItems? (.ref T) >>= k ∧ k (some ds.toArray) = pure (ps.zip (g us ws))) : KBinds K fd ps ks g gV := by
  obtain ⟨oc, od, kV, doc, pm, an, cdv, ct, osl, T, td, n, ts, rfl, lk, hcd, lt⟩ := F.ex
  refine ⟨fun s us ws KX hl => ?_, rel⟩
  obtain ⟨k, h1, h2⟩ := h T kV doc pm an cdv ct us ws hl
  exact BindsTo.of_defaults rfl (KX _ _ lt) rfl h1 h2
theorem fund_mk {x qual : Str} {st : Stmt} {f T : Addr} {oc : Value} {od an td : Option Addr} {osl ts : Array (Option Value)} {kV doc pm cdv ct : Value} {items : Array Value} {n : Nat}
    (l : K.lookup f = some ⟨oc, od, .func (PySem.W.fnOf x qual (defArgs st) (defBody st) (defScope st) (.ref T) kV doc pm an cdv ct), osl⟩)
    (c : PySem.W.codeIn K cdv qual = true) (k : PySem.W.keepIn K (.ref f) = true) (lt : K.lookup T = some ⟨.type "tuple", td, .seq items n, ts⟩) :
    FunD K x qual st f (PySem.W.fnOf x qual (defArgs st) (defBody st) (defScope st) (.ref T) kV doc pm an cdv ct) items.toList := ⟨⟨oc, od, kV, doc, pm, an, cdv, ct, osl, T, td, n, ts, rfl, l, c, by rw [lt]⟩, k⟩
end
/-- a class that is made with defaults at its end -/
structure KCalD (P : Program) (w : World) (K : PySem.W.Frag) (mg : Str → Option Value) (base : Heap) (x : Str) (C : Addr) (k : Nat) (sp : Sp) (dvs : List V) : Prop where
  ex : ∃ (f : Addr) (fd : FuncData) (ps : List Str) (ds : List Value), Mk K C f ∧ FnOk P w K mg base CX0 k f fd ps sp ∧ mg x = some (.ref C) ∧ Binds K fd ps ds ∧ Vals dvs ds
structure KCalK (P : Program) (w : World) (K : PySem.W.Frag) (mg : Str → Option Value) (base : Heap) (x : Str) (C : Addr) (k : Nat) (sp : Sp) (ks : List Str) (gV : List V → List V → List V) : Prop where
  ex : ∃ (f : Addr) (fd : FuncData) (ps : List Str) (g : List Value → List Value → List Value), Mk K C f ∧ FnOk P w K mg base CX0 k f fd ps sp ∧ mg x = some (.ref C) ∧ KBinds K fd ps ks g gV
def tMakeD (C : Addr) (sp : Sp) (dvs : List V) (t : TA) : TE := fun σ H Q => t σ H fun vs H1 => ∀ x dx H2, NewI H1 x dx C H2 → sp (.ref x :: (vs ++ dvs)) H2 (fun v H3 => v = .non ∧ Q (.ref x) H3) E0
def tMakeK (C : Addr) (sp : Sp) (gV : List V → List V → List V) (t tk : TA) : TE := fun σ H Q => t σ H fun vs H1 => tk σ H1 fun zs H2 => ∀ x dx H3, NewI H2 x dx C H3 → sp (gV (.ref x :: vs) zs) H3 (fun v H4 => v = .non ∧ Q (.ref x) H4) E0
section
variable {X : Cx} {k : Nat} {x : Str} {e : Expr} {es : List Expr} {kws : List Keyword} {t tk : TA} {p pos : Pos} {C : Addr} {sp : Sp} {dvs : List V} {ks : List Str} {gV : List V → List V → List V}
theorem pe_makeD (c : KCalD X.prog X.w X.K X.mg X.base x C k sp dvs) (hr : Room (k + 1) X.A) (ha : PA X (e :: es) t) (hg : Gl X x := by rfl) (hdb : (x == ("__debug__" : Str)) = false := by decide)
    (he : starEach (e :: es) X.env = (false, eval e X.env) :: starEach es X.env := by rfl) (hpl : (backTo pos (starEach es X.env)).any (·.1) = false := by rfl) :
    PE X (.Call (.Name x p) (e :: es) [] pos) (tMakeD C sp dvs t) := by
  obtain ⟨f, fd, ps, ds, M, F, hm, hb, hd⟩ := c.ex
  intro pins s σ H Q I h
  refine wpAny_Call_Name_kw (ld_glob I hg hm ?_ hdb)
  refine PySem.W.callWith_K (h₀ := X.base) I.ok.mod.kin M.kp (thn (ha pos pins s σ H _ I h) fun us s1 ⟨vs, H1, I1, r, q⟩ => ⟨I1.kIn, ?_⟩) he hpl
  exact run_make M F hr hb hd pass0 I1 r fun x dx h1 h2 ne => q x dx _ (NewI.of h1 h2 ne)
theorem run_makeK {f : Addr} {fd : FuncData} {ps : List Str} {g : List Value → List Value → List Value} {pins : List (Addr × Obj)} {σ : St} {H : Hp} {s : Shared} {Q : VK} {us ws : List Value} {vs zs : List V} (M : Mk X.K C f)
    (F : FnOk X.prog X.w X.K X.mg X.base CX0 k f fd ps sp) (hr : Room (k + 1) X.A) (hb : KBinds X.K fd ps ks g gV) (I : Inv X pins σ H s) (r : Vals vs us) (rz : Vals zs ws)
    (h : ∀ x dx, H x = none → H dx = none → dx ≠ x → sp (gV (.ref x :: vs) zs) (upd (upd H dx (.own x)) x (.ins C dx [])) (fun v H2 => v = .non ∧ Q (.ref x) H2) E0) :
    wpAny (model X.prog X.w) X.A (call (.ref C) us (ks.zip ws)) (EP X pins σ Q) X.xe s := by
  have hq := h (s.heap.objs.size + 1) s.heap.objs.size (I.hok.fresh (Nat.le_succ _)) (I.hok.fresh (Nat.le_refl _)) (Nat.ne_of_lt (Nat.lt_succ_self _))
  have J := Inv.made (C := C) I
  have r2 := hb.rel (vs := .ref (s.heap.objs.size + 1) :: vs) (us := .ref (s.heap.objs.size + 1) :: us) (.cons rfl r) rz
  have hl : (g (Value.ref (s.heap.objs.size + 1) :: us) ws).length = ps.length := by rw [← r2.length]; exact F.len _ _ _ _ hq
  refine wpAny_call (make_map (f := f) I.kIn M.makes M.init (beq_iff_eq.mp M.fn) (codeAny_mono (F.run _ X.stack _ _ ⟨Value.ref (s.heap.objs.size + 1) :: us, ks.zip ws⟩ (g (Value.ref (s.heap.objs.size + 1) :: us) ws) _ _ E0
    (hr.make C us (ks.zip ws)) (J.env0.make C us (ks.zip ws)) (hb.to _ _ _ J.kIn hl) r2 hq) fun r s' z => ?_))
  cases r with
  | error e => exact pass0 pins σ _ _ e s' J z
  | ok fl =>
    cases fl with
    | ret u =>
      obtain ⟨v, H', I3, rv, ev, q3⟩ := J.after z
      subst ev
      exact ⟨rv, ⟨V.ref (s.heap.objs.size + 1), H', I3, rfl, q3⟩⟩
    | next => exact False.elim z
    | brk => exact False.elim z
    | cont => exact False.elim z
theorem pe_makeK (c : KCalK X.prog X.w X.K X.mg X.base x C k sp ks gV) (hr : Room (k + 1) X.A) (ha : PA X (e :: es) t) (hkw : PK X kws tk) (hg : Gl X x := by rfl) (hall : (backToKw pos (keywordEach kws X.env)).all (·.1.isSome) = true := by rfl)
    (hks : (backToKw pos (keywordEach kws X.env)).filterMap (·.1) = ks := by rfl) (hdb : (x == ("__debug__" : Str)) = false := by decide) (he : starEach (e :: es) X.env = (false, eval e X.env) :: starEach es X.env := by rfl)
    (hpl : ((backTo pos (starEach (e :: es) X.env)).any (·.1) || (backToKw pos (keywordEach kws X.env)).any (·.1.isNone)) = false := by rfl) : PE X (.Call (.Name x p) (e :: es) kws pos) (tMakeK C sp gV t tk) := by
  obtain ⟨f, fd, ps, g, M, F, hm, hb⟩ := c.ex
  intro pins s σ H Q I h
  refine wpAny_Call_Name_kw (ld_glob I hg hm ?_ hdb)
  refine PySem.W.callWith_KW (h₀ := X.base) I.ok.mod.kin M.kp hall (thn (ha pos pins s σ H _ I h) fun us s1 ⟨vs, H1, I1, r, q⟩ => ?_) hpl he
  refine thn (hkw pos pins s1 σ H1 _ I1 q) fun ws s2 ⟨zs, H2, I2, rz, q2⟩ => ⟨I2.kIn, ?_⟩
  rw [hks]
  exact run_makeK M F hr hb I2 r rz fun x dx h1 h2 ne => q2 x dx _ (NewI.of h1 h2 ne)
/-- x in a dict of the module -/
def rInT (a : Addr) (kvs : List (Key × V)) : V → V → Hp → VK → Prop := fun x y H Q => ∃ k, y = .ref a ∧ x = kV k ∧ Q (.bl (valV kvs k).isSome) H
theorem op_inT {a : Addr} {kvs : List (Key × V)} (T : TabK X.prog X.w X.K a kvs) (hs : (a == sysModules) = false) : OpR X (compareOp .In) (rInT a kvs) := by
  intro pins s σ H x y v u Q I rx ry h
  obtain ⟨k, rfl, rfl, q⟩ := h
  cases (show u = Value.ref a from ry)
  obtain ⟨vs, rel, dd⟩ := T.get s.heap I.kIn
  refine wpAny_in_of (kV_is rx) hs dd.mapOf ⟨.bl (valV kvs k).isSome, H, I.tok _, ?_, q⟩
  rw [(rel.val k).isSome_eq]
  rfl
/-- xs.clear() -/
def rClrA : V → List V → Hp → VK → Prop
  | .ref l, [], H, Q => ∃ xs, H l = some (.lst xs) ∧ ∀ H2, Wrt H l (.lst []) H2 → Q .non H2
  | _, _, _, _ => False
theorem mt_clearA : MtM X "list.clear" rClrA := by
  intro pins s σ H x vs v us Q I rx rv h
  match x, vs, h with
  | .ref l, [], ⟨xs, hH, q⟩ =>
    cases rx
    cases rv
    obtain ⟨z, its, n, r, hl, e⟩ := I.lstM hH
    refine call_meets F.slot_list_clear ⟨_, e, rfl⟩ F.entry_list_clear (F.args_list_clear_1 _) (AutoSeq1.list_clear_list_0 l its.toArray n (by rw [List.size_toArray]; omega)) ⟨e, ?_⟩
    exact ⟨.non, _, I.lset (its' := []) hH e (by simp) .nil (Nat.zero_le _), rfl, q _ Wrt.of⟩
/-- sorted(set(xs)) of a list of numbers -/
def srtQ (K : PySem.W.Frag) (Q : VK) : List V → Hp → Prop := fun vs H1 => ∃ (a : Addr) (ns : List Int), vs = [.ref a] ∧ SqL K H1 a (ns.map V.int) ∧ ns.length < 64 ∧ ∀ (p : Addr) (ms : List Int) (H2 : Hp), New H1 p (.lst (ms.map V.int)) H2 → (∀ j, j ∈ ms ↔ j ∈ ns) → ms.Pairwise (· < ·) → ms.length ≤ ns.length → Q (.ref p) H2
def tSrt (K : PySem.W.Frag) (t : TA) : TE := fun σ H Q => t σ H (srtQ K Q)
theorem Inv.drw {pins : List (Addr × Obj)} {σ : St} {H : Hp} {s : Shared} (I : Inv X pins σ H s) (d : Drawn) : Inv X pins σ H { s with drawn := d } :=
  ⟨I.ok, I.os, I.bare, I.base, I.loc, I.cell, I.free, I.freeC, I.pin, I.hok, I.len⟩
theorem ints_vals : ∀ {ns : List Int} {its : List Value}, Vals (ns.map V.int) its → IntsAre its ns
  | [], _, .nil => .nil
  | n :: ns, _, .cons r t => by
    obtain ⟨tk, rfl⟩ := r
    exact .cons n tk (ints_vals t)
theorem vals_of_ints : ∀ {ns : List Int} {its : List Value}, IntsAre its ns → Vals (ns.map V.int) its
  | _, _, .nil => .nil
  | _, _, .cons n tk h => .cons ⟨tk, rfl⟩ (vals_of_ints h)
theorem pe_sortedSet {ta : TA} {p1 p2 pos2 : Pos} (hgs : Gl X "sorted") (hgt : Gl X "set") (hms : X.mg "sorted" = none) (hmt : X.mg "set" = none) (hc : X.calm = true) (ha : PA X [e] ta)
    (hs : starEach [e] X.env = (false, eval e X.env) :: starEach [] X.env := by rfl) (hpl : (backTo pos2 (starEach [] X.env)).any (·.1) = false := by rfl)
    (hs2 : starEach [.Call (.Name "set" p2) [e] [] pos2] X.env = [(false, eval (.Call (.Name "set" p2) [e] [] pos2) X.env)] := by rfl) :
    PE X (.Call (.Name "sorted" p1) [.Call (.Name "set" p2) [e] [] pos2] [] pos) (tSrt X.K ta) := by
  intro pins s σ H Q I h
  refine Call_ (ld_blt I hgs hms boot_sorted (PyProof.Rows.callWith_builtin1 ?_ hs2 rfl))
  rw [hs2]
  show wpAny _ _ (spliced ((false, eval (.Call (.Name "set" p2) [e] [] pos2) X.env) :: [])) _ _ s
  refine Calls.spliced_cons (Call_ (ld_blt I hgt hmt boot_set (PyProof.Rows.callWith_type1 (thn (ha pos2 pins s σ H _ I h) fun us s1 ⟨vs, H1, I1, r1, q1⟩ => ?_) hs hpl)))
  obtain ⟨a, ns, ev, hq, h64, q⟩ := q1
  subst ev
  obtain ⟨u, rfl, ru⟩ := r1.one
  cases ru
  obtain ⟨its, rv, pl, hz⟩ := I1.list hq
  have li : its.length = ns.length := by
    have := rv.length
    simpa using this.symm
  refine SetX.call_setL (I.ok.hd hc) pl.isList (ns := ns) (by simpa using ints_vals rv) (by rw [List.size_toArray]; unfold scanBound; omega) fun m tk es ep t S z hm kp ht => Calls.spliced_nil ?_
  replace z : es.size ≤ its.length := by simpa using z
  refine SetX.sortedL (s := { s1 with heap := m, toks := tk }) (I.ok.hd hc) S (by omega) fun p m2 d tk2 out n ms hp hlt g hI hpw hpe kp2 => ?_
  have sz : s1.heap.objs.size ≤ p := Nat.le_trans (Nat.le_of_lt (Heap.lt_size S.here)) hp
  have lm : ms.length = es.size := by
    have := hpe.length_eq
    simpa [SetX.nums] using this
  have nd : ms.Nodup := hpe.nodup_iff.mpr S.nd
  refine ⟨.ref p, upd H1 p (.lst (ms.map V.int)), (I1.laid (t' := tk2) (fun b u e => kp2 b u (kp b u (Heap.lt_size e) e)) sz ?_).drw d, rfl, q p ms _ (New.of (I1.hok.fresh sz)) (fun j => (hpe.mem_iff).trans (hm j)) ?_ (by omega)⟩
  · exact ⟨by rw [List.length_map, lm]; exact Nat.le_trans z (by rw [sizeLine_eq]; omega), out.toList, n, vals_of_ints hI, by simpa using g⟩
  · exact (hpw.and nd).imp fun {a b} h => by have h1 := h.1; have h2 : a ≠ b := h.2; omega
/-- for x in a list or a tuple -/
def iSq (K : PySem.W.Frag) (tl : TE) : TI := fun σ H R => tl σ H fun x H1 => ∃ a, x = .ref a ∧ ((∃ xs, SqL K H1 a xs) ∧ R (Itl K a) H1 ∨ (∃ xs, SqT K H1 a xs) ∧ R (Itt K a) H1)
theorem pi_seq {tg l : Expr} {tl : TE} (hl : PE X l tl) : PI X tg l (iSq X.K tl) := by
  intro pins s σ H R I h
  refine thn (hl pins s σ H _ I h) fun v s1 ⟨x, H1, I1, r1, q1⟩ => ?_
  obtain ⟨a, e, q⟩ := q1
  subst e
  cases r1
  have fp : ∀ b ∈ [s1.heap.objs.size], FpOk X pins H1 b := fun b hb => by
    rw [List.mem_singleton] at hb
    subst hb
    exact I1.fpOk (Nat.le_refl _) (I1.hok.fresh (Nat.le_refl _))
  rcases q with ⟨⟨xs, hq⟩, q⟩ | ⟨⟨xs, hq⟩, q⟩
  · obtain ⟨its, rv, p, hz⟩ := I1.list hq
    exact wpAny_pyIter_list p.isList ⟨s1.heap.objs.size, [s1.heap.objs.size], _, _, H1, rfl, I1.kept (t' := s1.toks) fun b o e => Heap.get?_push_of_some _ e, turn_list a _, ⟨_, Heap.get?_push_size _ rfl, rfl, rfl⟩, fp, q⟩
  · obtain ⟨its, rv, p, hz⟩ := I1.tuple hq
    exact wpAny_pyIter_tuple (show s1.heap.IsTuple a its.toArray from p) ⟨s1.heap.objs.size, [s1.heap.objs.size], _, _, H1, rfl, I1.kept (t' := s1.toks) fun b o e => Heap.get?_push_of_some _ e, turn_tuple a _, ⟨_, Heap.get?_push_size _ rfl, rfl, rfl⟩, fp, q⟩
end
namespace Rd
section
variable {σ : St} {H : Hp} {Q : VK}
theorem mkD {C : Addr} {sp : Sp} {dvs : List V} {t : TA} : tMakeD C sp dvs t σ H Q = t σ H fun vs H1 => ∀ x dx H2, NewI H1 x dx C H2 → sp (.ref x :: (vs ++ dvs)) H2 (fun v H3 => v = .non ∧ Q (.ref x) H3) E0 := rfl
theorem mkK {C : Addr} {sp : Sp} {gV : List V → List V → List V} {t tk : TA} : tMakeK C sp gV t tk σ H Q = t σ H fun vs H1 => tk σ H1 fun zs H2 => ∀ x dx H3, NewI H2 x dx C H3 → sp (gV (.ref x :: vs) zs) H3 (fun v H4 => v = .non ∧ Q (.ref x) H4) E0 := rfl
theorem inT {a : Addr} {kvs : List (Key × V)} {n : Int} : rInT a kvs (.int n) (.ref a) H Q = Q (.bl (valV kvs (.inl n)).isSome) H := by
  refine propext ⟨fun ⟨k, _, e, q⟩ => ?_, fun q => ⟨.inl n, rfl, rfl, q⟩⟩
  cases k with
  | inl m => cases e; exact q
  | inr m => cases e
theorem srt {K : PySem.W.Frag} {t : TA} : tSrt K t σ H Q = t σ H (srtQ K Q) := rfl
theorem srtR {K : PySem.W.Frag} {a : Addr} : srtQ K Q [.ref a] H = ∃ ns : List Int, SqL K H a (ns.map V.int) ∧ ns.length < 64 ∧ ∀ (p : Addr) (ms : List Int) (H2 : Hp), New H p (.lst (ms.map V.int)) H2 → (∀ j, j ∈ ms ↔ j ∈ ns) → ms.Pairwise (· < ·) → ms.length ≤ ns.length → Q (.ref p) H2 :=
  propext ⟨fun ⟨_, ns, e, q⟩ => by cases e; exact ⟨ns, q⟩, fun ⟨ns, q⟩ => ⟨a, ns, rfl, q⟩⟩
def isqQ (K : PySem.W.Frag) (R : It → Hp → Prop) : VK := fun x H1 => ∃ a, x = .ref a ∧ ((∃ xs, SqL K H1 a xs) ∧ R (Itl K a) H1 ∨ (∃ xs, SqT K H1 a xs) ∧ R (Itt K a) H1)
theorem isq {K : PySem.W.Frag} {tl : TE} {R : It → Hp → Prop} : iSq K tl σ H R = tl σ H (isqQ K R) := rfl
theorem isqR {K : PySem.W.Frag} {R : It → Hp → Prop} {a : Addr} : isqQ K R (.ref a) H = ((∃ xs, SqL K H a xs) ∧ R (Itl K a) H ∨ (∃ xs, SqT K H a xs) ∧ R (Itt K a) H) := propext ⟨fun ⟨_, e, q⟩ => by cases e; exact q, fun q => ⟨a, rfl, q⟩⟩
theorem clr {l : Addr} : rClrA (.ref l) [] H Q = ∃ xs, H l = some (.lst xs) ∧ ∀ H2, Wrt H l (.lst []) H2 → Q .non H2 := rfl
end
end Rd
end L2
set_option Elab.async false
set_option linter.all false
set_option maxRecDepth 100000
set_option maxHeartbeats 4000000
/-! DICTS whose keys are tuples, as a def's own; a method with defaults, a method within a block; len(set(xs)) -/
namespace L2
open PySem PySem.Spec PyProof.Rows
section
variable {X : Cx} {k : Nat} {m x : Str} {o e i value : Expr} {es : List Expr} {ta td ty tv : TE} {t : TA} {p pos pos' apos : Pos} {C : Addr} {sp : Sp} {dvs : List V}
variable {N' : List Str} {scope : Scope} {Cb : Addr} {s₀ : Shared} {H₀ : Hp} {ex : List Addr}
end
namespace Rd
section
variable {σ : St} {H : Hp} {Q : VK} {D : Ends}
theorem cxP {CX : CXT} {P : Program} {w : World} {K : PySem.W.Frag} {mg : Str → Option Value} {base : Heap} {N : List Str} {qual : Str} {scope : Scope} {f : Addr} {cd : Value} {A : Around} {outer : List Env} {s : Shared} {H : Hp} {E : XK} : (cxOf CX P w K mg base N qual scope f cd A outer s H E).prog = P := rfl
theorem cxW {CX : CXT} {P : Program} {w : World} {K : PySem.W.Frag} {mg : Str → Option Value} {base : Heap} {N : List Str} {qual : Str} {scope : Scope} {f : Addr} {cd : Value} {A : Around} {outer : List Env} {s : Shared} {H : Hp} {E : XK} : (cxOf CX P w K mg base N qual scope f cd A outer s H E).w = w := rfl
theorem cxM {CX : CXT} {P : Program} {w : World} {K : PySem.W.Frag} {mg : Str → Option Value} {base : Heap} {N : List Str} {qual : Str} {scope : Scope} {f : Addr} {cd : Value} {A : Around} {outer : List Env} {s : Shared} {H : Hp} {E : XK} : (cxOf CX P w K mg base N qual scope f cd A outer s H E).mg = mg := rfl
theorem cxB {CX : CXT} {P : Program} {w : World} {K : PySem.W.Frag} {mg : Str → Option Value} {base : Heap} {N : List Str} {qual : Str} {scope : Scope} {f : Addr} {cd : Value} {A : Around} {outer : List Env} {s : Shared} {H : Hp} {E : XK} : (cxOf CX P w K mg base N qual scope f cd A outer s H E).base = base := rfl
theorem cxPn {X : Cx} : X.nox.prog = X.prog := rfl
theorem cxWn {X : Cx} : X.nox.w = X.w := rfl
theorem cxMn {X : Cx} : X.nox.mg = X.mg := rfl
theorem cxBn {X : Cx} : X.nox.base = X.base := rfl
end
end Rd
end L2
set_option Elab.async false
set_option linter.all false
set_option maxRecDepth 100000
set_option maxHeartbeats 4000000
namespace K21
open PySem L2
def top (i : Nat) : Stmt := PySem.Challenge.pw_hostturn_k21_guests.main.body.getD i (.Pass ⟨0, 0, 0, 0⟩)
abbrev s_is_between : Stmt := top 5
theorem sc_is_between : FnScope ["thing", "least", "greatest"] ["thing", "least", "greatest"] (defScope s_is_between) := ⟨rfl, rfl, rfl, by decide +kernel, rfl, by decide +kernel, by decide +kernel⟩
theorem st_is_between {x0 x1 x2 : V} : start ["thing", "least", "greatest"] [x0, x1, x2] = [some x0, some x1, some x2] := rfl
abbrev s_fit : Stmt := top 6
theorem sc_fit : FnScope ["width", "number"] ["width", "number"] (defScope s_fit) := ⟨rfl, rfl, rfl, by decide +kernel, rfl, by decide +kernel, by decide +kernel⟩
theorem st_fit {x0 x1 : V} : start ["width", "number"] [x0, x1] = [some x0, some x1] := rfl
abbrev s_signed : Stmt := top 7
theorem sc_signed : FnScope ["width", "number", "span"] ["width", "number"] (defScope s_signed) := ⟨rfl, rfl, rfl, by decide +kernel, rfl, by decide +kernel, by decide +kernel⟩
theorem st_signed {x0 x1 : V} : start ["width", "number", "span"] [x0, x1] = [some x0, some x1, none] := rfl
abbrev s_is_over : Stmt := top 8
theorem sc_is_over : FnScope ["width", "number", "half"] ["width", "number"] (defScope s_is_over) := ⟨rfl, rfl, rfl, by decide +kernel, rfl, by decide +kernel, by decide +kernel⟩
theorem st_is_over {x0 x1 : V} : start ["width", "number", "half"] [x0, x1] = [some x0, some x1, none] := rfl
abbrev s_result_marks : Stmt := top 9
theorem sc_result_marks : FnScope ["width", "result", "carry", "over", "fitted", "nought", "sign"] ["width", "result", "carry", "over"] (defScope s_result_marks) := ⟨rfl, rfl, rfl, by decide +kernel, rfl, by decide +kernel, by decide +kernel⟩
theorem st_result_marks {x0 x1 x2 x3 : V} : start ["width", "result", "carry", "over", "fitted", "nought", "sign"] [x0, x1, x2, x3] = [some x0, some x1, some x2, some x3, none, none, none] := rfl
abbrev s_sum_marks : Stmt := top 10
theorem sc_sum_marks : FnScope ["width", "a", "b", "k", "result", "carry", "over"] ["width", "a", "b", "k"] (defScope s_sum_marks) := ⟨rfl, rfl, rfl, by decide +kernel, rfl, by decide +kernel, by decide +kernel⟩
theorem st_sum_marks {x0 x1 x2 x3 : V} : start ["width", "a", "b", "k", "result", "carry", "over"] [x0, x1, x2, x3] = [some x0, some x1, some x2, some x3, none, none, none] := rfl
abbrev s_less_marks : Stmt := top 11
theorem sc_less_marks : FnScope ["width", "a", "b", "k", "result", "carry", "over"] ["width", "a", "b", "k"] (defScope s_less_marks) := ⟨rfl, rfl, rfl, by decide +kernel, rfl, by decide +kernel, by decide +kernel⟩
theorem st_less_marks {x0 x1 x2 x3 : V} : start ["width", "a", "b", "k", "result", "carry", "over"] [x0, x1, x2, x3] = [some x0, some x1, some x2, some x3, none, none, none] := rfl
abbrev s_bits_marks : Stmt := top 12
theorem sc_bits_marks : FnScope ["a"] ["a"] (defScope s_bits_marks) := ⟨rfl, rfl, rfl, by decide +kernel, rfl, by decide +kernel, by decide +kernel⟩
theorem st_bits_marks {x0 : V} : start ["a"] [x0] = [some x0] := rfl
abbrev s_with_carry : Stmt := top 13
theorem sc_with_carry : FnScope ["marks", "carry"] ["marks", "carry"] (defScope s_with_carry) := ⟨rfl, rfl, rfl, by decide +kernel, rfl, by decide +kernel, by decide +kernel⟩
theorem st_with_carry {x0 x1 : V} : start ["marks", "carry"] [x0, x1] = [some x0, some x1] := rfl
abbrev s_marks_of : Stmt := top 14
theorem sc_marks_of : FnScope ["width", "record", "kind", "a"] ["width", "record"] (defScope s_marks_of) := ⟨rfl, rfl, rfl, by decide +kernel, rfl, by decide +kernel, by decide +kernel⟩
theorem st_marks_of {x0 x1 : V} : start ["width", "record", "kind", "a"] [x0, x1] = [some x0, some x1, none, none] := rfl
abbrev s_are_between : Stmt := top 16
theorem sc_are_between : FnScope ["things", "least", "greatest"] ["things", "least", "greatest"] (defScope s_are_between) := ⟨rfl, rfl, rfl, by decide +kernel, rfl, by decide +kernel, by decide +kernel⟩
theorem st_are_between {x0 x1 x2 : V} : start ["things", "least", "greatest"] [x0, x1, x2] = [some x0, some x1, some x2] := rfl
abbrev s_is_width : Stmt := top 17
theorem sc_is_width : FnScope ["width"] ["width"] (defScope s_is_width) := ⟨rfl, rfl, rfl, by decide +kernel, rfl, by decide +kernel, by decide +kernel⟩
theorem st_is_width {x0 : V} : start ["width"] [x0] = [some x0] := rfl
abbrev s_is_floor : Stmt := top 18
theorem sc_is_floor : FnScope ["floor"] ["floor"] (defScope s_is_floor) := ⟨rfl, rfl, rfl, by decide +kernel, rfl, by decide +kernel, by decide +kernel⟩
theorem st_is_floor {x0 : V} : start ["floor"] [x0] = [some x0] := rfl
abbrev s_is_boxes : Stmt := top 19
theorem sc_is_boxes : FnScope ["width", "boxes"] ["width", "boxes"] (defScope s_is_boxes) := ⟨rfl, rfl, rfl, by decide +kernel, rfl, by decide +kernel, by decide +kernel⟩
theorem st_is_boxes {x0 x1 : V} : start ["width", "boxes"] [x0, x1] = [some x0, some x1] := rfl
abbrev s_is_marks : Stmt := top 20
theorem sc_is_marks : FnScope ["marks"] ["marks"] (defScope s_is_marks) := ⟨rfl, rfl, rfl, by decide +kernel, rfl, by decide +kernel, by decide +kernel⟩
theorem st_is_marks {x0 : V} : start ["marks"] [x0] = [some x0] := rfl
abbrev s_is_wards : Stmt := top 21
theorem sc_is_wards : FnScope ["wards"] ["wards"] (defScope s_is_wards) := ⟨rfl, rfl, rfl, by decide +kernel, rfl, by decide +kernel, by decide +kernel⟩
theorem st_is_wards {x0 : V} : start ["wards"] [x0] = [some x0] := rfl
abbrev s_check_guest : Stmt := top 22
theorem sc_check_guest : FnScope ["width", "floor", "boxes", "marks", "wards", "place"] ["width", "floor", "boxes", "marks", "wards", "place"] (defScope s_check_guest) := ⟨rfl, rfl, rfl, by decide +kernel, rfl, by decide +kernel, by decide +kernel⟩
theorem st_check_guest {x0 x1 x2 x3 x4 x5 : V} : start ["width", "floor", "boxes", "marks", "wards", "place"] [x0, x1, x2, x3, x4, x5] = [some x0, some x1, some x2, some x3, some x4, some x5] := rfl
abbrev s_record_of : Stmt := top 23
theorem sc_record_of : FnScope ["marks"] ["marks"] (defScope s_record_of) := ⟨rfl, rfl, rfl, by decide +kernel, rfl, by decide +kernel, by decide +kernel⟩
theorem st_record_of {x0 : V} : start ["marks"] [x0] = [some x0] := rfl
abbrev s__law_cell_at : Stmt := top 26
theorem sc__law_cell_at : FnScope ["_law_script", "_law_k"] ["_law_script", "_law_k"] (defScope s__law_cell_at) := ⟨rfl, rfl, rfl, by decide +kernel, rfl, by decide +kernel, by decide +kernel⟩
theorem st__law_cell_at {x0 x1 : V} : start ["_law_script", "_law_k"] [x0, x1] = [some x0, some x1] := rfl
abbrev s__law_mixed : Stmt := top 27
theorem sc__law_mixed : FnScope ["_law_cell", "_law_k", "_law_number_here"] ["_law_cell", "_law_k"] (defScope s__law_mixed) := ⟨rfl, rfl, rfl, by decide +kernel, rfl, by decide +kernel, by decide +kernel⟩
theorem st__law_mixed {x0 x1 : V} : start ["_law_cell", "_law_k", "_law_number_here"] [x0, x1] = [some x0, some x1, none] := rfl
abbrev s__law_number : Stmt := top 28
theorem sc__law_number : FnScope ["_law_width", "_law_cell", "_law_k", "_law_full", "_law_number_here", "_law_some"] ["_law_width", "_law_cell", "_law_k"] (defScope s__law_number) := ⟨rfl, rfl, rfl, by decide +kernel, rfl, by decide +kernel, by decide +kernel⟩
theorem st__law_number {x0 x1 x2 : V} : start ["_law_width", "_law_cell", "_law_k", "_law_full", "_law_number_here", "_law_some"] [x0, x1, x2] = [some x0, some x1, some x2, none, none, none] := rfl
abbrev s__law_code : Stmt := top 29
theorem sc__law_code : FnScope ["_law_width", "_law_cell", "_law_k", "_law_number_here", "_law_kind", "_law_low", "_law_other", "_law_leap", "_law_some", "_law_more"] ["_law_width", "_law_cell", "_law_k"] (defScope s__law_code) := ⟨rfl, rfl, rfl, by decide +kernel, rfl, by decide +kernel, by decide +kernel⟩
theorem st__law_code {x0 x1 x2 : V} : start ["_law_width", "_law_cell", "_law_k", "_law_number_here", "_law_kind", "_law_low", "_law_other", "_law_leap", "_law_some", "_law_more"] [x0, x1, x2] = [some x0, some x1, some x2, none, none, none, none, none, none, none] := rfl
abbrev s__law_floor : Stmt := top 30
theorem sc__law_floor : FnScope ["_law_script", "_law_width", "_law_cell", "_law_bound", "_law_floor_here", "_law_begin", "_law_at", "_law_k", "_law_byte"] ["_law_script", "_law_width"] (defScope s__law_floor) := ⟨rfl, rfl, rfl, by decide +kernel, rfl, by decide +kernel, by decide +kernel⟩
theorem st__law_floor {x0 x1 : V} : start ["_law_script", "_law_width", "_law_cell", "_law_bound", "_law_floor_here", "_law_begin", "_law_at", "_law_k", "_law_byte"] [x0, x1] = [some x0, some x1, none, none, none, none, none, none, none] := rfl
abbrev s__law_case : Stmt := top 31
theorem sc__law_case : FnScope ["_law_script", "_law_first", "_law_width", "_law_boxes", "_law_marks", "_law_several", "_law_pages", "_law_floor_here", "_law_begin"] ["_law_script"] (defScope s__law_case) := ⟨rfl, rfl, rfl, by decide +kernel, rfl, by decide +kernel, by decide +kernel⟩
theorem st__law_case {x0 : V} : start ["_law_script", "_law_first", "_law_width", "_law_boxes", "_law_marks", "_law_several", "_law_pages", "_law_floor_here", "_law_begin"] [x0] = [some x0, none, none, none, none, none, none, none, none] := rfl
abbrev s__law_made : Stmt := top 32
theorem sc__law_made : FnScope ["_law_case_here", "_law_way", "_law_width", "_law_floor_here", "_law_boxes", "_law_marks", "_law_pages", "_law_spot"] ["_law_case_here", "_law_way"] (defScope s__law_made) := ⟨rfl, rfl, rfl, by decide +kernel, rfl, by decide +kernel, by decide +kernel⟩
theorem st__law_made {x0 x1 : V} : start ["_law_case_here", "_law_way", "_law_width", "_law_floor_here", "_law_boxes", "_law_marks", "_law_pages", "_law_spot"] [x0, x1] = [some x0, some x1, none, none, none, none, none, none] := rfl
abbrev s__law_due : Stmt := top 33
theorem sc__law_due : FnScope ["_law_case_here", "_law_way", "_law_width", "_law_floor_here", "_law_boxes", "_law_marks", "_law_pages", "_law_spot"] ["_law_case_here", "_law_way"] (defScope s__law_due) := ⟨rfl, rfl, rfl, by decide +kernel, rfl, by decide +kernel, by decide +kernel⟩
theorem st__law_due {x0 x1 : V} : start ["_law_case_here", "_law_way", "_law_width", "_law_floor_here", "_law_boxes", "_law_marks", "_law_pages", "_law_spot"] [x0, x1] = [some x0, some x1, none, none, none, none, none, none] := rfl
abbrev s__law_right : Stmt := top 34
theorem sc__law_right : FnScope ["_law_guest", "_law_case_here", "_law_way", "_law_due_here", "_law_marks", "_law_number_here", "_law_pages", "_law_address", "_law_found"] ["_law_guest", "_law_case_here", "_law_way"] (defScope s__law_right) := ⟨rfl, rfl, rfl, by decide +kernel, rfl, by decide +kernel, by decide +kernel⟩
theorem st__law_right {x0 x1 x2 : V} : start ["_law_guest", "_law_case_here", "_law_way", "_law_due_here", "_law_marks", "_law_number_here", "_law_pages", "_law_address", "_law_found"] [x0, x1, x2] = [some x0, some x1, some x2, none, none, none, none, none, none] := rfl
abbrev s_law : Stmt := top 35
theorem sc_law : FnScope ["_law_script", "_law_case_here", "_law_way", "_law_handed", "_law_before", "_law_guest", "_law_other", "_law_told", "_law_third"] ["_law_script"] (defScope s_law) := ⟨rfl, rfl, rfl, by decide +kernel, rfl, by decide +kernel, by decide +kernel⟩
theorem st_law {x0 : V} : start ["_law_script", "_law_case_here", "_law_way", "_law_handed", "_law_before", "_law_guest", "_law_other", "_law_told", "_law_third"] [x0] = [some x0, none, none, none, none, none, none, none, none] := rfl
abbrev s_Guest___init__ : Stmt := inClass (top 24) 0
theorem sc_Guest___init__ : FnScope ["self", "width", "floor", "boxes", "marks", "wards", "place"] ["self", "width", "floor", "boxes", "marks", "wards", "place"] (defScope s_Guest___init__) := ⟨rfl, rfl, rfl, by decide +kernel, rfl, by decide +kernel, by decide +kernel⟩
theorem st_Guest___init__ {x0 x1 x2 x3 x4 x5 x6 : V} : start ["self", "width", "floor", "boxes", "marks", "wards", "place"] [x0, x1, x2, x3, x4, x5, x6] = [some x0, some x1, some x2, some x3, some x4, some x5, some x6] := rfl
abbrev s_Guest_stand : Stmt := inClass (top 24) 1
theorem sc_Guest_stand : FnScope ["self", "marks"] ["self"] (defScope s_Guest_stand) := ⟨rfl, rfl, rfl, by decide +kernel, rfl, by decide +kernel, by decide +kernel⟩
theorem st_Guest_stand {x0 : V} : start ["self", "marks"] [x0] = [some x0, none] := rfl
abbrev s_Guest_is_ward : Stmt := inClass (top 24) 2
theorem sc_Guest_is_ward : FnScope ["self", "address"] ["self", "address"] (defScope s_Guest_is_ward) := ⟨rfl, rfl, rfl, by decide +kernel, rfl, by decide +kernel, by decide +kernel⟩
theorem st_Guest_is_ward {x0 x1 : V} : start ["self", "address"] [x0, x1] = [some x0, some x1] := rfl
abbrev s_Guest_twin : Stmt := inClass (top 24) 3
theorem sc_Guest_twin : FnScope ["self", "other"] ["self"] (defScope s_Guest_twin) := ⟨rfl, rfl, rfl, by decide +kernel, rfl, by decide +kernel, by decide +kernel⟩
theorem st_Guest_twin {x0 : V} : start ["self", "other"] [x0] = [some x0, none] := rfl
local macro_rules | `(tactic| walk_at "sq") => `(tactic| first
  | assumption
  | exact SqL.of (by assumption)
  | exact SqT.of (by assumption)
  | exact sq_at (by assumption)
  | exact st_at (by assumption)
  | exact at_at (by assumption)
  | exact Same.refl _
  | (refine sq_new (by assumption) ?_; walk_at "sq")
  | (refine sq_same (by assumption) ?_; walk_at "sq")
  | (refine st_new (by assumption) ?_; walk_at "sq")
  | (refine st_same (by assumption) ?_; walk_at "sq")
  | (refine sm_new (by assumption) ?_; walk_at "sq")
  | (refine sm_same (by assumption) ?_; walk_at "sq")
  | (refine at_new (by assumption) ?_; walk_at "sq")
  | (refine at_same (by assumption) ?_; walk_at "sq"))
def W (w : Int) : Prop := w = 8 ∨ w = 16 ∨ w = 32
def spans : List (Key × V) := [(.inl 8, .int 256), (.inl 16, .int 65536), (.inl 32, .int 4294967296)]
theorem span_at {w : Int} (h : W w) : valV spans (.inl w) = some (.int (2 ^ w.toNat)) := by
  rcases h with rfl | rfl | rfl <;> decide +kernel
/-- the powers -/
theorem pw {w : Int} (h : W w) : (2 : Int) ^ w.toNat = 2 * 2 ^ (w - 1).toNat ∧ 0 < (2 : Int) ^ (w - 1).toNat ∧ 0 ≤ w - 1 ∧ w ≤ 32 ∧ (2 : Int) ^ w.toNat ≤ 4294967296 := by
  rcases h with rfl | rfl | rfl <;> decide
/-- a width out of the written three -/
theorem pick3 (r : Int) : ∃ w, W w ∧ atI [V.int 8, V.int 16, V.int 32] (r % 3) = some (.int w) := by
  have h : r % 3 = 0 ∨ r % 3 = 1 ∨ r % 3 = 2 := by omega
  rcases h with h | h | h <;> rw [h]
  · exact ⟨8, .inl rfl, rfl⟩
  · exact ⟨16, .inr (.inl rfl), rfl⟩
  · exact ⟨32, .inr (.inr rfl), rfl⟩
theorem atI_ints {ns : List Int} {k : Int} (h0 : 0 ≤ k) (h1 : k < (ns.length : Int)) : atI (ns.map V.int) k = some (.int (ns.getD k.toNat 0)) := by
  obtain ⟨j, rfl⟩ := Int.eq_ofNat_of_zero_le h0
  have hj : j < ns.length := by omega
  exact atI_nat (by simp [hj])
/-- a place of either sign -/
theorem atI_some {xs : List V} {k : Int} (h0 : -(xs.length : Int) ≤ k) (h1 : k < (xs.length : Int)) : ∃ v ∈ xs, atI xs k = some v := by
  unfold atI ixN
  by_cases h : 0 ≤ k
  · rw [if_pos h, if_pos h1]
    have hj : k.toNat < xs.length := by omega
    exact ⟨xs[k.toNat], List.getElem_mem hj, by simp [hj]⟩
  · rw [if_neg h, if_pos h0]
    have hj : (k + (xs.length : Int)).toNat < xs.length := by omega
    exact ⟨xs[(k + (xs.length : Int)).toNat], List.getElem_mem hj, by simp [hj]⟩
def Ints (xs : List V) : Prop := ∀ x ∈ xs, ∃ n : Int, x = .int n
theorem ints_map (ns : List Int) : Ints (ns.map V.int) := fun x hx => by
  obtain ⟨n, _, rfl⟩ := List.mem_map.mp hx
  exact ⟨n, rfl⟩
theorem ints_cut {xs : List V} (h : Ints xs) (lo hi : Option Int) : Ints (cutV xs lo hi) := fun x hx => h x (List.mem_of_mem_drop (List.mem_of_mem_take hx))
theorem ints_app {xs ys : List V} (h : Ints xs) (h' : Ints ys) : Ints (xs ++ ys) := fun x hx => (List.mem_append.mp hx).elim (h x) (h' x)
theorem ints_at {xs : List V} (h : Ints xs) {k : Int} (h0 : -(xs.length : Int) ≤ k) (h1 : k < (xs.length : Int)) : ∃ n : Int, atI xs k = some (.int n) := by
  obtain ⟨v, hv, e⟩ := atI_some h0 h1
  obtain ⟨n, rfl⟩ := h v hv
  exact ⟨n, e⟩
structure Bls (mg : Str → Option Value) : Prop where
  len : mg "len" = none
  isinstance : mg "isinstance" = none
  int : mg "int" = none
  bool : mg "bool" = none
  list : mg "list" = none
  tuple : mg "tuple" = none
  all : mg "all" = none
  range : mg "range" = none
  sorted : mg "sorted" = none
  set : mg "set" = none
def sgn (w n : Int) : Int := if 2 ^ (w - 1).toNat ≤ n then n - 2 ^ w.toNat else n
def sp_fit : Sp := spN [.i, .i] fun (w : Int) (n : Int) (H : Hp) (Q : VK) => W w ∧ Q (.int (n % 2 ^ w.toNat)) H
theorem rd_fit {w n : Int} {H : Hp} {Q : VK} {E : XK} : sp_fit [.int w, .int n] H Q E = (W w ∧ Q (.int (n % 2 ^ w.toNat)) H) := rfl
def sp_signed : Sp := spN [.i, .i] fun (w : Int) (n : Int) (H : Hp) (Q : VK) => W w ∧ Q (.int (sgn w n)) H
theorem rd_signed {w n : Int} {H : Hp} {Q : VK} {E : XK} : sp_signed [.int w, .int n] H Q E = (W w ∧ Q (.int (sgn w n)) H) := rfl
def ovr (w n : Int) : Int := if n < -2 ^ (w - 1).toNat ∨ 2 ^ (w - 1).toNat ≤ n then 1 else 0
def rmk (w r c o : Int) : List Int := [if r % 2 ^ w.toNat = 0 then 1 else 0, if 2 ^ (w - 1).toNat ≤ r % 2 ^ w.toNat then 1 else 0, c, o]
def sumk (w a b k : Int) : List Int := rmk w (a + b + k) (if 2 ^ w.toNat ≤ a + b + k then 1 else 0) (ovr w (sgn w a + sgn w b + k))
def lessk (w a b k : Int) : List Int := rmk w (a - b - k) (if a - b - k < 0 then 1 else 0) (ovr w (sgn w a - sgn w b - k))
def wcar (l : List Int) (c : Int) : List Int := [l.getD 0 0, l.getD 1 0, c, l.getD 3 0]
/-- the marks of a record -/
def mks (w : Int) (x : Str) (a b c : Int) : List Int :=
  if x = "bits" then [a % 2, a / 2 % 2, a / 4 % 2, a / 8 % 2]
  else if x = "sum" then sumk w a b (c % 2)
  else if x = "less" then lessk w a b (c % 2)
  else if x = "logic" then rmk w a 0 0
  else if x = "left" then rmk w (a + a) (a / 2 ^ (w - 1).toNat % 2) 0
  else if x = "right" then rmk w (a / 2) (a % 2) 0
  else if x = "more" then wcar (sumk w a 1 0) (c % 2)
  else wcar (lessk w a 1 0) (c % 2)
/-- a new tuple of whole numbers is given back -/
def retT (H : Hp) (Q : VK) (l : List Int) : Prop := ∀ q H', Same H H' → H q = none → H' q = some (.tup (l.map V.int)) → Q (.ref q) H'
theorem retT.new {H H1 : Hp} {Q : VK} {l : List Int} {xs : List V} (k : retT H Q l) (s : Same H H1) (e : xs = l.map V.int) : ∀ p H2, New H1 p (.tup xs) H2 → Q (.ref p) H2 := fun p H2 n =>
  k p _ (s.trans n.same) (s.free n.nw) (by rw [n.at', e])
theorem retT.via {H H1 : Hp} {Q : VK} {l l' : List Int} (k : retT H Q l) (s : Same H H1) (e : l' = l) : retT H1 Q l' := fun q H' s' n e' => k q H' (s.trans s') (s.free n) (by rw [e', e])
def sp_is_over : Sp := spN [.i, .i] fun (w : Int) (n : Int) (H : Hp) (Q : VK) => W w ∧ Q (.int (ovr w n)) H
theorem rd_is_over {w n : Int} {H : Hp} {Q : VK} {E : XK} : sp_is_over [.int w, .int n] H Q E = (W w ∧ Q (.int (ovr w n)) H) := rfl
def sp_result_marks : Sp := spN [.i, .i, .i, .i] fun (w : Int) (r : Int) (c : Int) (o : Int) (H : Hp) (Q : VK) => W w ∧ retT H Q (rmk w r c o)
theorem rd_result_marks {w r c o : Int} {H : Hp} {Q : VK} {E : XK} : sp_result_marks [.int w, .int r, .int c, .int o] H Q E = (W w ∧ retT H Q (rmk w r c o)) := rfl
def sp_sum_marks : Sp := spN [.i, .i, .i, .i] fun (w : Int) (a : Int) (b : Int) (k : Int) (H : Hp) (Q : VK) => W w ∧ retT H Q (sumk w a b k)
theorem rd_sum_marks {w a b k : Int} {H : Hp} {Q : VK} {E : XK} : sp_sum_marks [.int w, .int a, .int b, .int k] H Q E = (W w ∧ retT H Q (sumk w a b k)) := rfl
def sp_less_marks : Sp := spN [.i, .i, .i, .i] fun (w : Int) (a : Int) (b : Int) (k : Int) (H : Hp) (Q : VK) => W w ∧ retT H Q (lessk w a b k)
theorem rd_less_marks {w a b k : Int} {H : Hp} {Q : VK} {E : XK} : sp_less_marks [.int w, .int a, .int b, .int k] H Q E = (W w ∧ retT H Q (lessk w a b k)) := rfl
def sp_bits_marks : Sp := spN [.i] fun (a : Int) (H : Hp) (Q : VK) => retT H Q [a % 2, a / 2 % 2, a / 4 % 2, a / 8 % 2]
theorem rd_bits_marks {a : Int} {H : Hp} {Q : VK} {E : XK} : sp_bits_marks [.int a] H Q E = retT H Q [a % 2, a / 2 % 2, a / 4 % 2, a / 8 % 2] := rfl
def sp_with_carry (K : PySem.W.Frag) : Sp := spN [.r, .i] fun (p : Addr) (c : Int) (H : Hp) (Q : VK) => ∃ l : List Int, l.length = 4 ∧ SqT K H p (l.map V.int) ∧ retT H Q (wcar l c)
theorem rd_with_carry {K : PySem.W.Frag} {p : Addr} {c : Int} {H : Hp} {Q : VK} {E : XK} : sp_with_carry K [.ref p, .int c] H Q E = ∃ l : List Int, l.length = 4 ∧ SqT K H p (l.map V.int) ∧ retT H Q (wcar l c) := rfl
def sp_marks_of (K : PySem.W.Frag) : Sp := spN [.i, .r] fun (w : Int) (p : Addr) (H : Hp) (Q : VK) => W w ∧ ∃ (x : Str) (a b c : Int), SqT K H p [.str x, .int a, .int b, .int c] ∧ retT H Q (mks w x a b c)
theorem rd_marks_of {K : PySem.W.Frag} {w : Int} {p : Addr} {H : Hp} {Q : VK} {E : XK} : sp_marks_of K [.int w, .ref p] H Q E = (W w ∧ ∃ (x : Str) (a b c : Int), SqT K H p [.str x, .int a, .int b, .int c] ∧ retT H Q (mks w x a b c)) := rfl
theorem four (l : List Int) (h : l.length = 4) : ∃ a b c d, l = [a, b, c, d] := match l, h with
  | [a, b, c, d], _ => ⟨a, b, c, d, rfl⟩
/-! ### the guest -/
abbrev M (w : Int) : Int := 2 ^ w.toNat
def In (m : Int) (xs : List Int) : Prop := ∀ x ∈ xs, 0 ≤ x ∧ x < m
def btw (n a b : Int) : Bool := decide (a ≤ n ∧ n ≤ b)
theorem in_all {m : Int} {xs : List Int} (h : In m xs) : ((xs.map fun x => btw x 0 (m - 1)).all id) = true := by
  rw [List.all_eq_true]
  intro b hb
  obtain ⟨x, hx, rfl⟩ := List.mem_map.mp hb
  have := h x hx
  simp [btw]
  omega
def sp_between : Sp := spN [.i, .i, .i] fun (n : Int) (a : Int) (b : Int) (H : Hp) (Q : VK) => Q (.bl (btw n a b)) H
theorem rd_between {n a b : Int} {H : Hp} {Q : VK} {E : XK} : sp_between [.int n, .int a, .int b] H Q E = Q (.bl (btw n a b)) H := rfl
def sp_are (K : PySem.W.Frag) : Sp := spN [.r, .i, .i] fun (p : Addr) (a : Int) (b : Int) (H : Hp) (Q : VK) => ∃ xs : List Int, (SqL K H p (xs.map V.int) ∨ SqT K H p (xs.map V.int)) ∧ xs.length ≤ 1000 ∧ ∀ H', Same H H' → Q (.bl ((xs.map fun x => btw x a b).all id)) H'
theorem rd_are {K : PySem.W.Frag} {p : Addr} {a b : Int} {H : Hp} {Q : VK} {E : XK} : sp_are K [.ref p, .int a, .int b] H Q E = ∃ xs : List Int, (SqL K H p (xs.map V.int) ∨ SqT K H p (xs.map V.int)) ∧ xs.length ≤ 1000 ∧ ∀ H', Same H H' → Q (.bl ((xs.map fun x => btw x a b).all id)) H' := rfl
def sp_width : Sp := spN [.i] fun (w : Int) (H : Hp) (Q : VK) => W w ∧ Q (.bl true) H
theorem rd_width {w : Int} {H : Hp} {Q : VK} {E : XK} : sp_width [.int w] H Q E = (W w ∧ Q (.bl true) H) := rfl
def retY (H : Hp) (Q : VK) : Prop := ∀ H', Same H H' → Q (.bl true) H'
def sp_floor (K : PySem.W.Frag) : Sp := spN [.r] fun (p : Addr) (H : Hp) (Q : VK) => ∃ xs : List Int, SqL K H p (xs.map V.int) ∧ xs.length = 256 ∧ In 256 xs ∧ retY H Q
theorem rd_floor {K : PySem.W.Frag} {p : Addr} {H : Hp} {Q : VK} {E : XK} : sp_floor K [.ref p] H Q E = ∃ xs : List Int, SqL K H p (xs.map V.int) ∧ xs.length = 256 ∧ In 256 xs ∧ retY H Q := rfl
def sp_boxes (K : PySem.W.Frag) : Sp := spN [.i, .r] fun (w : Int) (p : Addr) (H : Hp) (Q : VK) => W w ∧ ∃ xs : List Int, SqL K H p (xs.map V.int) ∧ xs.length = 8 ∧ In (M w) xs ∧ retY H Q
theorem rd_boxes {K : PySem.W.Frag} {w : Int} {p : Addr} {H : Hp} {Q : VK} {E : XK} : sp_boxes K [.int w, .ref p] H Q E = (W w ∧ ∃ xs : List Int, SqL K H p (xs.map V.int) ∧ xs.length = 8 ∧ In (M w) xs ∧ retY H Q) := rfl
def sp_marks (K : PySem.W.Frag) : Sp := spN [.r] fun (p : Addr) (H : Hp) (Q : VK) => ∃ xs : List Int, SqT K H p (xs.map V.int) ∧ xs.length = 4 ∧ In 2 xs ∧ retY H Q
theorem rd_marks {K : PySem.W.Frag} {p : Addr} {H : Hp} {Q : VK} {E : XK} : sp_marks K [.ref p] H Q E = ∃ xs : List Int, SqT K H p (xs.map V.int) ∧ xs.length = 4 ∧ In 2 xs ∧ retY H Q := rfl
def sp_wards (K : PySem.W.Frag) : Sp := spN [.r] fun (p : Addr) (H : Hp) (Q : VK) => ∃ xs : List Int, SqL K H p (xs.map V.int) ∧ xs.length ≤ 60 ∧ In 16 xs ∧ retY H Q
theorem rd_wards {K : PySem.W.Frag} {p : Addr} {H : Hp} {Q : VK} {E : XK} : sp_wards K [.ref p] H Q E = ∃ xs : List Int, SqL K H p (xs.map V.int) ∧ xs.length ≤ 60 ∧ In 16 xs ∧ retY H Q := rfl
/-- a list of numbers, or none -/
inductive OL (K : PySem.W.Frag) (H : Hp) : V → Option (List Int) → Prop where
  | non : OL K H .non none
  | ls {p : Addr} {xs : List Int} : SqL K H p (xs.map V.int) → OL K H (.ref p) (some xs)
inductive OT (K : PySem.W.Frag) (H : Hp) : V → Option (List Int) → Prop where
  | non : OT K H .non none
  | ls {p : Addr} {xs : List Int} : SqT K H p (xs.map V.int) → OT K H (.ref p) (some xs)
theorem OL.same {K : PySem.W.Frag} {H H' : Hp} {v : V} {o : Option (List Int)} (h : OL K H v o) (s : Same H H') : OL K H' v o := by
  cases h with
  | non => exact .non
  | ls h => exact .ls (s.seq h)
theorem OT.same {K : PySem.W.Frag} {H H' : Hp} {v : V} {o : Option (List Int)} (h : OT K H v o) (s : Same H H') : OT K H' v o := by
  cases h with
  | non => exact .non
  | ls h => exact .ls (s.seqT h)
/-- what makes a guest -/
structure GArg (K : PySem.W.Frag) (H : Hp) (w : Int) (pf : Addr) (vb vm vw : V) (pl : Int) (fl : List Int) (bx mk wd : Option (List Int)) : Prop where
  hw : W w
  hf : SqL K H pf (fl.map V.int)
  lf : fl.length = 256
  nf : In 256 fl
  hb : OL K H vb bx
  lb : ∀ xs, bx = some xs → xs.length = 8 ∧ In (M w) xs
  hm : OT K H vm mk
  lm : ∀ xs, mk = some xs → xs.length = 4 ∧ In 2 xs
  hd : OL K H vw wd
  ld : ∀ xs, wd = some xs → xs.length ≤ 60 ∧ In 16 xs
  p0 : 0 ≤ pl
  p1 : pl ≤ 255
theorem GArg.same {K : PySem.W.Frag} {H H' : Hp} {w pl : Int} {pf : Addr} {vb vm vw : V} {fl : List Int} {bx mk wd : Option (List Int)} (h : GArg K H w pf vb vm vw pl fl bx mk wd) (s : Same H H') : GArg K H' w pf vb vm vw pl fl bx mk wd :=
  ⟨h.hw, s.seq h.hf, h.lf, h.nf, h.hb.same s, h.lb, h.hm.same s, h.lm, h.hd.same s, h.ld, h.p0, h.p1⟩
def sp_check (K : PySem.W.Frag) : Sp := fun vs H Q _ => ∃ w pf vb vm vw pl, vs = [.int w, .ref pf, vb, vm, vw, .int pl] ∧ (∃ fl bx mk wd, GArg K H w pf vb vm vw pl fl bx mk wd) ∧ ∀ H', Same H H' → Q .non H'
theorem rd_check {K : PySem.W.Frag} {w pl : Int} {pf : Addr} {vb vm vw : V} {H : Hp} {Q : VK} {E : XK} : sp_check K [.int w, .ref pf, vb, vm, vw, .int pl] H Q E = ((∃ fl bx mk wd, GArg K H w pf vb vm vw pl fl bx mk wd) ∧ ∀ H', Same H H' → Q .non H') :=
  propext ⟨fun h => by obtain ⟨_, _, _, _, _, _, e, a, b⟩ := h; cases e; exact ⟨a, b⟩, fun h => ⟨_, _, _, _, _, _, rfl, h.1, h.2⟩⟩
def sp_record (K : PySem.W.Frag) : Sp := spN [.r] fun (p : Addr) (H : Hp) (Q : VK) => ∃ a b c d : Int, SqT K H p [.int a, .int b, .int c, .int d] ∧ ∀ q H', New H q (.tup [.str "bits", .int (a + 2 * b + 4 * c + 8 * d), .int 0, .int 0]) H' → Q (.ref q) H'
theorem rd_record {K : PySem.W.Frag} {p : Addr} {H : Hp} {Q : VK} {E : XK} : sp_record K [.ref p] H Q E = ∃ a b c d : Int, SqT K H p [.int a, .int b, .int c, .int d] ∧ ∀ q H', New H q (.tup [.str "bits", .int (a + 2 * b + 4 * c + 8 * d), .int 0, .int 0]) H' → Q (.ref q) H' := rfl
/-- what a guest has -/
structure GD where
  w : Int
  fl : List Int
  bx : List Int
  kd : Str
  ra : Int
  rb : Int
  rc : Int
  wd : List Int
  pl : Int
  sn : List Int
  dn : Int
structure GA where
  pf : Addr
  pb : Addr
  pr : Addr
  pw : Addr
  ps : Addr
def guF (d : GD) (a : GA) : List (Str × V) := [("width", .int d.w), ("floor", .ref a.pf), ("boxes", .ref a.pb), ("record", .ref a.pr), ("wards", .ref a.pw), ("place", .int d.pl), ("sent", .ref a.ps), ("done", .int d.dn)]
structure Gu (K : PySem.W.Frag) (H : Hp) (C g : Addr) (d : GD) (a : GA) : Prop where
  ob : ∃ dx, H g = some (.ins C dx (guF d a))
  fl : H a.pf = some (.lst (d.fl.map V.int))
  bx : H a.pb = some (.lst (d.bx.map V.int))
  rc : SqT K H a.pr [.str d.kd, .int d.ra, .int d.rb, .int d.rc]
  wd : H a.pw = some (.lst (d.wd.map V.int))
  sn : H a.ps = some (.lst (d.sn.map V.int))
  nd : [a.pf, a.pb, a.pw, a.ps].Nodup
theorem Gu.same {K : PySem.W.Frag} {H H' : Hp} {C g : Addr} {d : GD} {a : GA} (h : Gu K H C g d a) (s : Same H H') : Gu K H' C g d a :=
  let ⟨dx, e⟩ := h.ob
  ⟨⟨dx, s _ _ e⟩, s _ _ h.fl, s _ _ h.bx, s.seqT h.rc, s _ _ h.wd, s _ _ h.sn, h.nd⟩
def GA.all (a : GA) (g : Addr) : List Addr := [g, a.pf, a.pb, a.pw, a.ps]
/-- a list written elsewhere -/
theorem sqT_wrtL {K : PySem.W.Frag} {H H' : Hp} {p q : Addr} {o : HO} {xs ys : List V} (h : SqT K H p xs) (w : Wrt H q o H') (e : H q = some (.lst ys)) : SqT K H' p xs := by
  rcases h with (h | ⟨u, h⟩) | h
  · exact .inl (.inl (by rw [w.els p fun z => by rw [z, e] at h; cases h]; exact h))
  · exact .inl (.inr ⟨u, by rw [w.els p fun z => by rw [z, e] at h; cases h]; exact h⟩)
  · exact .inr h
theorem Gu.wrt {K : PySem.W.Frag} {H H' : Hp} {C g q : Addr} {d : GD} {a : GA} {o : HO} {ys : List V} (h : Gu K H C g d a) (w : Wrt H q o H') (e : H q = some (.lst ys)) (n : q ∉ [a.pf, a.pb, a.pw, a.ps]) : Gu K H' C g d a := by
  obtain ⟨dx, eo⟩ := h.ob
  have k : ∀ b u, b ≠ q → H b = some u → H' b = some u := fun b u hb hu => by rw [w.els b hb]; exact hu
  refine ⟨⟨dx, k _ _ (fun z => by rw [z, e] at eo; cases eo) eo⟩, k _ _ (fun z => n (by simp [z])) h.fl, k _ _ (fun z => n (by simp [z])) h.bx, sqT_wrtL h.rc w e, k _ _ (fun z => n (by simp [z])) h.wd, k _ _ (fun z => n (by simp [z])) h.sn, h.nd⟩
def mkN (l : List Int) : Int := l.getD 0 0 + 2 * l.getD 1 0 + 4 * l.getD 2 0 + 8 * l.getD 3 0
def GD.made (w : Int) (fl : List Int) (bx mk : Option (List Int)) (wd : List Int) (pl : Int) : GD := ⟨w, fl, bx.getD (List.replicate 8 0), "bits", mkN (mk.getD [0, 0, 0, 0]), 0, 0, wd, pl, [], 0⟩
/-- the wards kept: just these pages -/
structure Pgs (wd ns : List Int) : Prop where
  mem : ∀ j, j ∈ wd ↔ j ∈ ns
  len : wd.length ≤ ns.length
theorem Pgs.inn {wd ns : List Int} {m : Int} (h : Pgs wd ns) (i : In m ns) : In m wd := fun x hx => i x ((h.mem x).mp hx)
def sp_ginit (K : PySem.W.Frag) (C : Addr) : Sp := fun vs H Q _ => ∃ g dx w pf vb vm vw pl fl bx mk wd, vs = [.ref g, .int w, .ref pf, vb, vm, vw, .int pl] ∧ H g = some (.ins C dx []) ∧ GArg K H w pf vb vm vw pl fl bx mk wd ∧
  ∀ (H' : Hp) (a : GA) (wd' : List Int), SameX g H H' → Gu K H' C g (GD.made w fl bx mk wd' pl) a → Pgs wd' (wd.getD []) → (∀ p ∈ [a.pf, a.pb, a.pw, a.ps], H p = none) → Q .non H'
theorem rd_ginit {K : PySem.W.Frag} {C g pf : Addr} {w pl : Int} {vb vm vw : V} {H : Hp} {Q : VK} {E : XK} : sp_ginit K C [.ref g, .int w, .ref pf, vb, vm, vw, .int pl] H Q E = ∃ dx fl bx mk wd, H g = some (.ins C dx []) ∧ GArg K H w pf vb vm vw pl fl bx mk wd ∧
    ∀ (H' : Hp) (a : GA) (wd' : List Int), SameX g H H' → Gu K H' C g (GD.made w fl bx mk wd' pl) a → Pgs wd' (wd.getD []) → (∀ p ∈ [a.pf, a.pb, a.pw, a.ps], H p = none) → Q .non H' :=
  propext ⟨fun h => by obtain ⟨_, dx, _, _, _, _, _, _, fl, bx, mk, wd, e, r⟩ := h; cases e; exact ⟨dx, fl, bx, mk, wd, r⟩, fun h => by obtain ⟨dx, fl, bx, mk, wd, r⟩ := h; exact ⟨_, dx, _, _, _, _, _, _, fl, bx, mk, wd, rfl, r⟩⟩
/-- what a stand tells -/
def sp_stand (K : PySem.W.Frag) (C : Addr) : Sp
  | [.ref g], H, Q, _ => ∃ (d : GD) (a : GA), Gu K H C g d a ∧ W d.w ∧ ∀ (H' : Hp) (t b m f s : Addr), Same H H' → H' t = some (.tup [.ref b, .ref m, .ref f, .int d.pl, .ref s, .int d.dn]) → H' b = some (.lst (d.bx.map V.int)) → H' m = some (.tup ((mks d.w d.kd d.ra d.rb d.rc).map V.int)) →
      H' f = some (.lst (d.fl.map V.int)) → H' s = some (.lst (d.sn.map V.int)) → [b, f, s].Nodup → H b = none → H f = none → H s = none → Q (.ref t) H'
  | _, _, _, _ => False
theorem rd_stand {K : PySem.W.Frag} {C g : Addr} {H : Hp} {Q : VK} {E : XK} : sp_stand K C [.ref g] H Q E = ∃ (d : GD) (a : GA), Gu K H C g d a ∧ W d.w ∧ ∀ (H' : Hp) (t b m f s : Addr), Same H H' → H' t = some (.tup [.ref b, .ref m, .ref f, .int d.pl, .ref s, .int d.dn]) → H' b = some (.lst (d.bx.map V.int)) → H' m = some (.tup ((mks d.w d.kd d.ra d.rb d.rc).map V.int)) →
      H' f = some (.lst (d.fl.map V.int)) → H' s = some (.lst (d.sn.map V.int)) → [b, f, s].Nodup → H b = none → H f = none → H s = none → Q (.ref t) H' := rfl
def sp_ward (K : PySem.W.Frag) (C : Addr) : Sp := spN [.r, .i] fun (g : Addr) (n : Int) (H : Hp) (Q : VK) => ∃ (d : GD) (a : GA), Gu K H C g d a ∧ Q (.bl (decide (n / 16 ∈ d.wd))) H
theorem rd_ward {K : PySem.W.Frag} {C g : Addr} {n : Int} {H : Hp} {Q : VK} {E : XK} : sp_ward K C [.ref g, .int n] H Q E = ∃ (d : GD) (a : GA), Gu K H C g d a ∧ Q (.bl (decide (n / 16 ∈ d.wd))) H := rfl
/-- a guest that stands as one may -/
structure GOk (d : GD) : Prop where
  hw : W d.w
  lf : d.fl.length = 256
  nf : In 256 d.fl
  lb : d.bx.length = 8
  nb : In (M d.w) d.bx
  lw : d.wd.length ≤ 60
  nw : In 16 d.wd
  p0 : 0 ≤ d.pl
  p1 : d.pl ≤ 255
def sp_twin (K : PySem.W.Frag) (C : Addr) : Sp := spN [.r] fun (g : Addr) (H : Hp) (Q : VK) => ∃ (d : GD) (a : GA), Gu K H C g d a ∧ GOk d ∧ ∀ (H' : Hp) (g' : Addr) (a' : GA) (wd' : List Int), Same H H' → Gu K H' C g' { d with wd := wd' } a' → Pgs wd' d.wd → (∀ p ∈ [a'.pf, a'.pb, a'.pw, a'.ps], H p = none) → H g' = none → Q (.ref g') H'
theorem rd_twin {K : PySem.W.Frag} {C g : Addr} {H : Hp} {Q : VK} {E : XK} : sp_twin K C [.ref g] H Q E = ∃ (d : GD) (a : GA), Gu K H C g d a ∧ GOk d ∧ ∀ (H' : Hp) (g' : Addr) (a' : GA) (wd' : List Int), Same H H' → Gu K H' C g' { d with wd := wd' } a' → Pgs wd' d.wd → (∀ p ∈ [a'.pf, a'.pb, a'.pw, a'.ps], H p = none) → H g' = none → Q (.ref g') H' := rfl
def gfs : List Str := ["width", "floor", "boxes", "record", "wards", "place", "sent", "done"]
theorem gi0 : ("width" : Str) ∈ gfs := .head _
theorem gi1 : ("floor" : Str) ∈ gfs := .tail _ (.head _)
theorem gi2 : ("boxes" : Str) ∈ gfs := .tail _ (.tail _ (.head _))
theorem gi3 : ("record" : Str) ∈ gfs := .tail _ (.tail _ (.tail _ (.head _)))
theorem gi4 : ("wards" : Str) ∈ gfs := .tail _ (.tail _ (.tail _ (.tail _ (.head _))))
theorem gi5 : ("place" : Str) ∈ gfs := .tail _ (.tail _ (.tail _ (.tail _ (.tail _ (.head _)))))
theorem gi6 : ("sent" : Str) ∈ gfs := .tail _ (.tail _ (.tail _ (.tail _ (.tail _ (.tail _ (.head _))))))
theorem gi7 : ("done" : Str) ∈ gfs := .tail _ (.tail _ (.tail _ (.tail _ (.tail _ (.tail _ (.tail _ (.head _)))))))
local macro_rules | `(tactic| walk_at "gi") => `(tactic| first | with_reducible exact gi0 | with_reducible exact gi1 | with_reducible exact gi2 | with_reducible exact gi3 | with_reducible exact gi4 | with_reducible exact gi5 | with_reducible exact gi6 | with_reducible exact gi7)
/-! ### the case that a guest's law draws -/
def sp_cell (K : PySem.W.Frag) : Sp := spN [.r, .i] fun (a : Addr) (k : Int) (H : Hp) (Q : VK) => ∃ ns : List Int, SqL K H a (ns.map V.int) ∧ 0 ≤ k ∧ ∀ r : Int, Q (.int r) H
theorem rd_cell {K : PySem.W.Frag} {a : Addr} {k : Int} {H : Hp} {Q : VK} {E : XK} : sp_cell K [.ref a, .int k] H Q E = ∃ ns : List Int, SqL K H a (ns.map V.int) ∧ 0 ≤ k ∧ ∀ r : Int, Q (.int r) H := rfl
def sp_mixed : Sp := spN [.i, .i] fun (_c : Int) (k : Int) (H : Hp) (Q : VK) => 0 ≤ k ∧ ∀ r : Int, 0 ≤ r → r < 2147483648 → Q (.int r) H
theorem rd_mixed {c k : Int} {H : Hp} {Q : VK} {E : XK} : sp_mixed [.int c, .int k] H Q E = (0 ≤ k ∧ ∀ r : Int, 0 ≤ r → r < 2147483648 → Q (.int r) H) := rfl
def sp_number : Sp := spN [.i, .i, .i] fun (w : Int) (_c : Int) (k : Int) (H : Hp) (Q : VK) => W w ∧ 0 ≤ k ∧ ∀ (r : Int) (H' : Hp), 0 ≤ r → r < 2 ^ w.toNat → Same H H' → Q (.int r) H'
theorem rd_number {w c k : Int} {H : Hp} {Q : VK} {E : XK} : sp_number [.int w, .int c, .int k] H Q E = (W w ∧ 0 ≤ k ∧ ∀ (r : Int) (H' : Hp), 0 ≤ r → r < 2 ^ w.toNat → Same H H' → Q (.int r) H') := rfl
def sp_code : Sp := spN [.i, .i, .i] fun (w : Int) (_c : Int) (k : Int) (H : Hp) (Q : VK) => W w ∧ 0 ≤ k ∧ ∀ (p : Addr) (xs : List Int) (H' : Hp), Same H H' → H' p = some (.lst (xs.map V.int)) → H p = none → In 256 xs → xs.length ≤ 5 → Q (.ref p) H'
theorem rd_code {w c k : Int} {H : Hp} {Q : VK} {E : XK} : sp_code [.int w, .int c, .int k] H Q E = (W w ∧ 0 ≤ k ∧ ∀ (p : Addr) (xs : List Int) (H' : Hp), Same H H' → H' p = some (.lst (xs.map V.int)) → H p = none → In 256 xs → xs.length ≤ 5 → Q (.ref p) H') := rfl
def sp_lfloor (K : PySem.W.Frag) : Sp := spN [.r, .i] fun (a : Addr) (w : Int) (H : Hp) (Q : VK) => W w ∧ ∃ ns : List Int, SqL K H a (ns.map V.int) ∧ ∀ (t p : Addr) (fl : List Int) (b : Int) (H' : Hp), Same H H' → H' t = some (.tup [.ref p, .int b]) → H' p = some (.lst (fl.map V.int)) → H p = none → fl.length = 256 → In 256 fl → 0 ≤ b → b ≤ 255 → Q (.ref t) H'
theorem rd_lfloor {K : PySem.W.Frag} {a : Addr} {w : Int} {H : Hp} {Q : VK} {E : XK} : sp_lfloor K [.ref a, .int w] H Q E = (W w ∧ ∃ ns : List Int, SqL K H a (ns.map V.int) ∧ ∀ (t p : Addr) (fl : List Int) (b : Int) (H' : Hp), Same H H' → H' t = some (.tup [.ref p, .int b]) → H' p = some (.lst (fl.map V.int)) → H p = none → fl.length = 256 → In 256 fl → 0 ≤ b → b ≤ 255 → Q (.ref t) H') := rfl
/-- a case: what is handed in -/
structure Cs where
  w : Int
  fl : List Int
  bx : List Int
  ms : List Int
  pg : List Int
  pl : Int
structure CsOk (c : Cs) : Prop where
  hw : W c.w
  lf : c.fl.length = 256
  nf : In 256 c.fl
  lb : c.bx.length = 8
  nb : In (M c.w) c.bx
  lm : c.ms.length = 4
  nm : In 2 c.ms
  lp : c.pg.length ≤ 40
  np : In 16 c.pg
  p0 : 0 ≤ c.pl
  p1 : c.pl ≤ 255
structure CsA where
  pf : Addr
  pb : Addr
  pm : Addr
  pp : Addr
def csV (c : Cs) (a : CsA) : List V := [.int c.w, .ref a.pf, .ref a.pb, .ref a.pm, .ref a.pp, .int c.pl]
structure CsAt (K : PySem.W.Frag) (H : Hp) (c : Cs) (a : CsA) : Prop where
  fl : H a.pf = some (.lst (c.fl.map V.int))
  bx : H a.pb = some (.lst (c.bx.map V.int))
  ms : SqT K H a.pm (c.ms.map V.int)
  pg : H a.pp = some (.lst (c.pg.map V.int))
  nd : [a.pf, a.pb, a.pp].Nodup
theorem CsAt.same {K : PySem.W.Frag} {H H' : Hp} {c : Cs} {a : CsA} (h : CsAt K H c a) (s : Same H H') : CsAt K H' c a := ⟨s _ _ h.fl, s _ _ h.bx, s.seqT h.ms, s _ _ h.pg, h.nd⟩
def sp_case (K : PySem.W.Frag) : Sp := spN [.r] fun (a : Addr) (H : Hp) (Q : VK) => ∃ ns : List Int, SqL K H a (ns.map V.int) ∧ ∀ (t : Addr) (c : Cs) (x : CsA) (H' : Hp), Same H H' → H' t = some (.tup (csV c x)) → CsAt K H' c x → CsOk c → c.pg.length ≤ 20 → Q (.ref t) H'
theorem rd_case {K : PySem.W.Frag} {a : Addr} {H : Hp} {Q : VK} {E : XK} : sp_case K [.ref a] H Q E = ∃ ns : List Int, SqL K H a (ns.map V.int) ∧ ∀ (t : Addr) (c : Cs) (x : CsA) (H' : Hp), Same H H' → H' t = some (.tup (csV c x)) → CsAt K H' c x → CsOk c → c.pg.length ≤ 20 → Q (.ref t) H' := rfl
/-- what is due, by the way of making -/
def wayB (c : Cs) (y : Int) : Option (List Int) := if y = 0 ∨ y = 2 ∨ y = 3 then none else some c.bx
def wayM (c : Cs) (y : Int) : Option (List Int) := if y = 0 ∨ y = 1 ∨ y = 3 ∨ y = 4 then none else some c.ms
def wayW (c : Cs) (y : Int) : Option (List Int) := if y = 0 ∨ y = 1 ∨ y = 2 ∨ y = 4 then none else some c.pg
def wayP (c : Cs) (y : Int) : Int := if y = 0 ∨ y = 1 ∨ y = 2 then 0 else c.pl
theorem Gu.notin {K : PySem.W.Frag} {H : Hp} {C g q : Addr} {d : GD} {a : GA} (h : Gu K H C g d a) (e : H q = none) : q ∉ [a.pf, a.pb, a.pw, a.ps] := fun z => by
  rcases List.mem_cons.mp z with rfl | z
  · rw [h.fl] at e; cases e
  rcases List.mem_cons.mp z with rfl | z
  · rw [h.bx] at e; cases e
  rcases List.mem_cons.mp z with rfl | z
  · rw [h.wd] at e; cases e
  rcases List.mem_cons.mp z with rfl | z
  · rw [h.sn] at e; cases e
  · cases z
theorem fresh_notin {H : Hp} {l : List Addr} {q : Addr} {u : HO} (fr : ∀ p ∈ l, H p = none) (e : H q = some u) : q ∉ l := fun z => by rw [fr q z] at e; cases e
theorem CsAt.notin {K : PySem.W.Frag} {H : Hp} {c : Cs} {x : CsA} {q : Addr} (h : CsAt K H c x) (e : H q = none) : q ∉ [x.pf, x.pb, x.pp] := fun z => by
  rcases List.mem_cons.mp z with rfl | z
  · rw [h.fl] at e; cases e
  rcases List.mem_cons.mp z with rfl | z
  · rw [h.bx] at e; cases e
  rcases List.mem_cons.mp z with rfl | z
  · rw [h.pg] at e; cases e
  · cases z
theorem CsAt.wrt {K : PySem.W.Frag} {H H' : Hp} {c : Cs} {x : CsA} {q : Addr} {o : HO} {ys : List V} (h : CsAt K H c x) (w : Wrt H q o H') (e : H q = some (.lst ys)) (n : q ∉ [x.pf, x.pb, x.pp]) : CsAt K H' c x := by
  have k : ∀ b u, b ≠ q → H b = some u → H' b = some u := fun b u hb hu => by rw [w.els b hb]; exact hu
  exact ⟨k _ _ (fun z => n (by simp [z])) h.fl, k _ _ (fun z => n (by simp [z])) h.bx, sqT_wrtL h.ms w e, k _ _ (fun z => n (by simp [z])) h.pg, h.nd⟩
theorem tup_wrt {H H' : Hp} {t q : Addr} {o : HO} {xs ys : List V} (h : H t = some (.tup xs)) (w : Wrt H q o H') (e : H q = some (.lst ys)) : H' t = some (.tup xs) := by
  rw [w.els t fun z => by rw [z, e] at h; cases h]; exact h
def sp_made (K : PySem.W.Frag) (C : Addr) : Sp := spN [.r, .i] fun (h : Addr) (y : Int) (H : Hp) (Q : VK) => ∃ (c : Cs) (x : CsA), H h = some (.lst (csV c x)) ∧ CsAt K H c x ∧ CsOk c ∧ 0 ≤ y ∧ y ≤ 7 ∧ ∀ (H' : Hp) (g : Addr) (a : GA) (wd : List Int), Same H H' → Gu K H' C g (GD.made c.w c.fl (wayB c y) (wayM c y) wd (wayP c y)) a → Pgs wd ((wayW c y).getD []) → (∀ p ∈ [a.pf, a.pb, a.pw, a.ps], H p = none) → H g = none → Q (.ref g) H'
theorem rd_made {K : PySem.W.Frag} {C h : Addr} {y : Int} {H : Hp} {Q : VK} {E : XK} : sp_made K C [.ref h, .int y] H Q E = ∃ (c : Cs) (x : CsA), H h = some (.lst (csV c x)) ∧ CsAt K H c x ∧ CsOk c ∧ 0 ≤ y ∧ y ≤ 7 ∧ ∀ (H' : Hp) (g : Addr) (a : GA) (wd : List Int), Same H H' → Gu K H' C g (GD.made c.w c.fl (wayB c y) (wayM c y) wd (wayP c y)) a → Pgs wd ((wayW c y).getD []) → (∀ p ∈ [a.pf, a.pb, a.pw, a.ps], H p = none) → H g = none → Q (.ref g) H' := rfl
/-- what is due: a tuple whose lists are the case's own, or new ones -/
def sp_due (K : PySem.W.Frag) : Sp := spN [.r, .i] fun (t : Addr) (y : Int) (H : Hp) (Q : VK) => ∃ (c : Cs) (x : CsA), H t = some (.tup (csV c x)) ∧ CsAt K H c x ∧ ∀ (H' : Hp) (u b m s : Addr), Same H H' → H' u = some (.tup [.ref b, .ref m, .ref x.pf, .int (wayP c y), .ref s, .int 0]) → H' b = some (.lst (((wayB c y).getD (List.replicate 8 0)).map V.int)) → SqT K H' m (((wayM c y).getD [0, 0, 0, 0]).map V.int) → H' s = some (.lst []) → Q (.ref u) H'
theorem rd_due {K : PySem.W.Frag} {t : Addr} {y : Int} {H : Hp} {Q : VK} {E : XK} : sp_due K [.ref t, .int y] H Q E = ∃ (c : Cs) (x : CsA), H t = some (.tup (csV c x)) ∧ CsAt K H c x ∧ ∀ (H' : Hp) (u b m s : Addr), Same H H' → H' u = some (.tup [.ref b, .ref m, .ref x.pf, .int (wayP c y), .ref s, .int 0]) → H' b = some (.lst (((wayB c y).getD (List.replicate 8 0)).map V.int)) → SqT K H' m (((wayM c y).getD [0, 0, 0, 0]).map V.int) → H' s = some (.lst []) → Q (.ref u) H' := rfl
/-- a guest that stands as is due -/
structure Due (c : Cs) (y : Int) (d : GD) : Prop where
  w : d.w = c.w
  fl : d.fl = c.fl
  bx : d.bx = (wayB c y).getD (List.replicate 8 0)
  kd : d.kd = "bits"
  ra : d.ra = mkN ((wayM c y).getD [0, 0, 0, 0])
  rb : d.rb = 0
  rc : d.rc = 0
  wd : ∀ j, j ∈ d.wd ↔ j ∈ (wayW c y).getD []
  pl : d.pl = wayP c y
  sn : d.sn = []
  dn : d.dn = 0
def sp_right (K : PySem.W.Frag) (C : Addr) : Sp := spN [.r, .r, .i] fun (g : Addr) (t : Addr) (y : Int) (H : Hp) (Q : VK) => ∃ (c : Cs) (x : CsA) (d : GD) (a : GA), H t = some (.tup (csV c x)) ∧ CsAt K H c x ∧ CsOk c ∧ Gu K H C g d a ∧ Due c y d ∧ retY H Q
theorem rd_right {K : PySem.W.Frag} {C g t : Addr} {y : Int} {H : Hp} {Q : VK} {E : XK} : sp_right K C [.ref g, .ref t, .int y] H Q E = ∃ (c : Cs) (x : CsA) (d : GD) (a : GA), H t = some (.tup (csV c x)) ∧ CsAt K H c x ∧ CsOk c ∧ Gu K H C g d a ∧ Due c y d ∧ retY H Q := rfl
theorem bm0 {K : PySem.W.Frag} {T : String} {r : V → List V → Hp → VK → Prop} {to : TE} {σ : St} {H : Hp} {Q : VK} : tBM0 K T r to σ H Q = to σ H fun x H1 => tyV K T x H1 ∧ r x [] H1 Q := rfl
local macro_rules | `(tactic| walk_at "vz") => `(tactic| try simp only [↓Rd.cxK, ↓Rd.rse, ↓Rd.meC, ↓Rd.meQ, ↓Rd.mkC, ↓Rd.sfA, ↓Rd.sfQ, ↓Rd.fdE, ↓Rd.fdR, ↓Rd.cxKn, ↓Rd.glst, ↓Rd.lstA, ↓Rd.tupA, ↓Rd.catA, ↓Rd.repA, ↓Rd.slLA, ↓Rd.listA, ↓Rd.appA, ↓Rd.setA, ↓Rd.v0, ↓Rd.v1, ↓Rd.v2, ↓Rd.v3, ↓Rd.v4, ↓Rd.v5, ↓Rd.v6, ↓Rd.v7, ↓Rd.v8, ↓Rd.v9, ↓Rd.v10, ↓Rd.v11, ↓Rd.v12, ↓Rd.v13, ↓Rd.v14, ↓Rd.v15, ↓Rd.v16, ↓Rd.v17, ↓Rd.v18, ↓Rd.v19, ↓Rd.v20, ↓Rd.v21, ↓Rd.v22, ↓Rd.v23, ↓Rd.g0, ↓Rd.g1, ↓Rd.g2, ↓Rd.g3, ↓Rd.g4, ↓Rd.g5, ↓Rd.g6, ↓Rd.g7, ↓Rd.g8, ↓Rd.g9, ↓Rd.g10, ↓Rd.g11, ↓Rd.g12, ↓Rd.g13, ↓Rd.g14, ↓Rd.g15, ↓Rd.g16, ↓Rd.g17, ↓Rd.g18, ↓Rd.g19, ↓Rd.g20, ↓Rd.g21, ↓Rd.g22, ↓Rd.g23, ↓Rd.isB_bl, ↓Rd.seq, ↓Rd.nxt, ↓Rd.brk, ↓Rd.cnt, ↓Rd.drp, ↓Rd.ret, ↓Rd.retN, ↓Rd.ifS, ↓Rd.asg, ↓Rd.cst, ↓Rd.op, ↓Rd.I0, ↓Rd.I1, ↓Rd.eqI, ↓Rd.neI, ↓Rd.eqS, ↓Rd.neS, ↓Rd.eqB, ↓Rd.neB, ↓Rd.un, ↓Rd.U, ↓Rd.tst, ↓Rd.tb, ↓Rd.and, ↓Rd.or, ↓Rd.not, ↓Rd.andV, ↓Rd.orV, ↓Rd.notV, ↓Rd.tif, ↓Rd.tifC, ↓Rd.chn, ↓Rd.nil, ↓Rd.cons, ↓Rd.cb, ↓Rd.call, ↓Rd.lst, ↓Rd.tup, ↓Rd.tabE, ↓Rd.tabI, ↓Rd.tabS, ↓Rd.ixL, ↓Rd.ixT, ↓Rd.slc, ↓Rd.part, ↓Rd.partI, ↓Rd.noPart, ↓Rd.slL, ↓Rd.cat, ↓Rd.frr, ↓Rd.cmp, ↓Rd.itl, ↓Rd.itlR, ↓Rd.itt, ↓Rd.ittR, ↓Rd.rg, ↓Rd.rgI, ↓Rd.lenL, ↓Rd.lenS, ↓Rd.isiII, ↓Rd.isiIB, ↓Rd.isiTT, ↓Rd.isiLL, ↓Rd.sumL, ↓Rd.allL, ↓Rd.intI, ↓Rd.intB, ↓Rd.listOf, ↓Rd.strI, ↓Rd.bm, ↓Rd.app, ↓Rd.inSeq, ↓Rd.eqD, ↓Rd.neD, ↓Rd.sub, ↓Rd.setL, ↓Rd.gtup, ↓Rd.gnil, ↓Rd.gcons, ↓Rd.all, not_true_eq_false, not_false_eq_true, Int.one_mul, CDiv, CPow, CMul, Int.natAbs_one, Rd.nab10, Rd.nab2, Nat.reduceLT, true_or, or_true, Int.reduceLT, Int.reduceLE, true_and, and_true, and_self, Int.reduceToNat, Int.reduceMul, Int.reduceSub, Int.reduceAdd, Int.reduceNeg, Int.reducePow, List.length_cons, List.length_nil, Nat.reduceAdd, Nat.zero_add, sizeLine_eq, Nat.reduceLeDiff, Nat.reducePow, decide_eq_true_eq, Bool.not_eq_eq_eq_not, Bool.not_true, Bool.not_false, decide_eq_false_iff_not, eq_self, ↓reduceIte, reduceCtorEq, Bool.false_eq_true, ↓Rd.cxP, ↓Rd.cxW, ↓Rd.cxM, ↓Rd.cxB, ↓Rd.cxPn, ↓Rd.cxWn, ↓Rd.cxMn, ↓Rd.cxBn, ↓Rd.mkD, ↓Rd.mkK, ↓Rd.inT, ↓Rd.clr, ↓Rd.isq, ↓Rd.isqR, ↓Rd.srt, ↓Rd.srtR, ↓rd_fit, ↓rd_signed, ↓rd_is_over, ↓rd_result_marks, ↓rd_sum_marks, ↓rd_less_marks, ↓rd_bits_marks, ↓rd_with_carry, ↓rd_marks_of, ↓rd_between, ↓rd_are, ↓rd_width, ↓rd_floor, ↓rd_boxes, ↓rd_marks, ↓rd_wards, ↓rd_check, ↓rd_record, ↓rd_ginit, ↓rd_stand, ↓rd_ward, ↓rd_twin, ↓rd_cell, ↓rd_mixed, ↓rd_number, ↓rd_code, ↓rd_lfloor, ↓rd_case, ↓rd_made, ↓rd_due, ↓rd_right, ↓bm0])
section
variable {P : Program} {w : World} {K : PySem.W.Frag} {mg : Str → Option Value} {base : Heap} {f dS : Addr} {fd : FuncData}
theorem ok_fit (F : Fun K "fit" "fit" s_fit f fd) (M : mg "SPANS" = some (.ref dS)) (tb_SPANS : TabK P w K dS spans) : FnOk P w K mg base CX0 1 f fd ["width", "number"] sp_fit := by
  refine F.ok sc_fit (fun vs H Q E h => spN_len h) (fun cdv A outer s H vs Q E hr h => ?_)
  obtain ⟨w', _, rfl, h'0⟩ := spN_i h
  obtain ⟨n, _, rfl, h'1⟩ := spN_i h'0
  obtain ⟨rfl, h'n⟩ := spN_nil h'1
  clear h h'0 h'1
  obtain ⟨hw, k⟩ := h'n
  · skip
    refine ⟨_, (pss_one (ps_ret (pe_op op_mod (pv 1) (pe_tab M rfl tb_SPANS (pv 0))))), ?_⟩
    have hp := pw hw
    rw [st_fit]
    walk_at "vz"
    exact ⟨_, span_at hw, by walk_at "vz"; exact ⟨by omega, k⟩⟩
end
section
variable {P : Program} {w : World} {K : PySem.W.Frag} {mg : Str → Option Value} {base : Heap} {f dS : Addr} {fd : FuncData}
theorem ok_signed (F : Fun K "signed" "signed" s_signed f fd) (M : mg "SPANS" = some (.ref dS)) (tb_SPANS : TabK P w K dS spans) : FnOk P w K mg base CX0 1 f fd ["width", "number"] sp_signed := by
  refine F.ok sc_signed (fun vs H Q E h => spN_len h) (fun cdv A outer s H vs Q E hr h => ?_)
  obtain ⟨w', _, rfl, h'0⟩ := spN_i h
  obtain ⟨n, _, rfl, h'1⟩ := spN_i h'0
  obtain ⟨rfl, h'n⟩ := spN_nil h'1
  clear h h'0 h'1
  obtain ⟨hw, k⟩ := h'n
  · skip
    refine ⟨_, (pss_cons (ps_set (i := 2) sc_signed.nd rfl (by first | exact Or.inl rfl | exact Or.inr rfl) (pe_tab M rfl tb_SPANS (pv 0)))
      (pss_one (ps_ret (pe_ifExp (pt_cmpR op_ge (pv 1) (pe_op op_fdiv (pv 2) pe_int) (nomk _)) (pe_op op_sub (pv 1) (pv 2)) (pv 1))))), ?_⟩
    have hp := pw hw
    rw [st_signed]
    walk_at "vz"
    refine ⟨_, span_at hw, ?_⟩
    walk_at "vz"
    unfold sgn at k
    refine ite2 (fun h => ?_) (fun h => ?_)
    · exact qi k (by rw [if_pos (by omega)])
    · exact qi k (by rw [if_neg (by omega)])
end
section
variable {P : Program} {w : World} {K : PySem.W.Frag} {mg : Str → Option Value} {base : Heap} {f dS : Addr} {fd : FuncData}
theorem ok_is_over (F : Fun K "is_over" "is_over" s_is_over f fd) (M : mg "SPANS" = some (.ref dS)) (tb_SPANS : TabK P w K dS spans) : FnOk P w K mg base CX0 1 f fd ["width", "number"] sp_is_over := by
  refine F.ok sc_is_over (fun vs H Q E h => spN_len h) (fun cdv A outer s H vs Q E hr h => ?_)
  obtain ⟨w', _, rfl, h'0⟩ := spN_i h
  obtain ⟨n, _, rfl, h'1⟩ := spN_i h'0
  obtain ⟨rfl, h'n⟩ := spN_nil h'1
  clear h h'0 h'1
  obtain ⟨hw, k⟩ := h'n
  · skip
    refine ⟨_, (pss_cons (ps_set (i := 2) sc_is_over.nd rfl (by first | exact Or.inl rfl | exact Or.inr rfl) (pe_op op_fdiv (pe_tab M rfl tb_SPANS (pv 0)) pe_int))
      (pss_one (ps_ret (pe_ifC (PW.pt (pw_or (pt_cmpR op_lt (pv 1) (pe_un un_neg (pv 2)) (nomk _)) (pw_or1 (pt_cmpR op_gt (pv 1) (pe_op op_sub (pv 2) pe_int) (nomk _))))))))), ?_⟩
    have hp := pw hw
    rw [st_is_over]
    walk_at "vz"
    refine ⟨_, span_at hw, ?_⟩
    walk_at "vz"
    unfold ovr at k
    refine ite2 (fun h => ?_) (fun h => ?_)
    · exact qi k (by rw [if_pos (by omega)])
    · refine qi k ?_
      by_cases z : 2 ^ (w' - 1).toNat ≤ n
      · rw [if_pos (by omega), if_pos (by omega)]
      · rw [if_neg (by omega), if_neg (by omega)]
theorem ok_result_marks (F : Fun K "result_marks" "result_marks" s_result_marks f fd) (M : mg "SPANS" = some (.ref dS)) (tb_SPANS : TabK P w K dS spans) (c_fit : Cal P w K mg base "fit" 1 ["width", "number"] sp_fit) :
    FnOk P w K mg base CX0 2 f fd ["width", "result", "carry", "over"] sp_result_marks := by
  refine F.ok sc_result_marks (fun vs H Q E h => spN_len h) (fun cdv A outer s H vs Q E hr h => ?_)
  obtain ⟨w', _, rfl, h'0⟩ := spN_i h
  obtain ⟨r, _, rfl, h'1⟩ := spN_i h'0
  obtain ⟨c, _, rfl, h'2⟩ := spN_i h'1
  obtain ⟨o, _, rfl, h'3⟩ := spN_i h'2
  obtain ⟨rfl, h'n⟩ := spN_nil h'3
  clear h h'0 h'1 h'2 h'3
  obtain ⟨hw, k⟩ := h'n
  · skip
    refine ⟨_, (pss_cons (ps_set (i := 4) sc_result_marks.nd rfl (by first | exact Or.inl rfl | exact Or.inr rfl) (pe_callC c_fit (hr.mono (by decide)) (pa_cons (pv 0) (pa_cons (pv 1) pa_nil))))
      (pss_cons (ps_set (i := 5) sc_result_marks.nd rfl (by first | exact Or.inl rfl | exact Or.inr rfl) (pe_ifC (pt_cmpR op_eq (pv 4) pe_int (nomk _))))
      (pss_cons (ps_set (i := 6) sc_result_marks.nd rfl (by first | exact Or.inl rfl | exact Or.inr rfl) (pe_ifC (pt_cmpR op_ge (pv 4) (pe_op op_fdiv (pe_tab M rfl tb_SPANS (pv 0)) pe_int) (nomk _))))
      (pss_one (ps_ret (pe_tupA (pa_cons (pv 5) (pa_cons (pv 6) (pa_cons (pv 2) (pa_cons (pv 3) pa_nil)))))))))), ?_⟩
    have hp := pw hw
    rw [st_result_marks]
    walk_at "vz"
    refine ⟨hw, _, span_at hw, ?_⟩
    walk_at "vz"
    refine k.new (Same.refl _) ?_
    have e : (2 : Int) ^ w'.toNat / 2 = 2 ^ (w' - 1).toNat := by omega
    rw [e]
    rfl
theorem ok_sum_marks (F : Fun K "sum_marks" "sum_marks" s_sum_marks f fd) (M : mg "SPANS" = some (.ref dS)) (tb_SPANS : TabK P w K dS spans) (c_signed : Cal P w K mg base "signed" 1 ["width", "number"] sp_signed)
    (c_is_over : Cal P w K mg base "is_over" 1 ["width", "number"] sp_is_over) (c_result_marks : Cal P w K mg base "result_marks" 2 ["width", "result", "carry", "over"] sp_result_marks) :
    FnOk P w K mg base CX0 3 f fd ["width", "a", "b", "k"] sp_sum_marks := by
  refine F.ok sc_sum_marks (fun vs H Q E h => spN_len h) (fun cdv A outer s H vs Q E hr h => ?_)
  obtain ⟨w', _, rfl, h'0⟩ := spN_i h
  obtain ⟨a, _, rfl, h'1⟩ := spN_i h'0
  obtain ⟨b, _, rfl, h'2⟩ := spN_i h'1
  obtain ⟨c, _, rfl, h'3⟩ := spN_i h'2
  obtain ⟨rfl, h'n⟩ := spN_nil h'3
  clear h h'0 h'1 h'2 h'3
  obtain ⟨hw, k⟩ := h'n
  · skip
    refine ⟨_, (pss_cons (ps_set (i := 4) sc_sum_marks.nd rfl (by first | exact Or.inl rfl | exact Or.inr rfl) (pe_op op_add (pe_op op_add (pv 1) (pv 2)) (pv 3)))
      (pss_cons (ps_set (i := 5) sc_sum_marks.nd rfl (by first | exact Or.inl rfl | exact Or.inr rfl) (pe_ifC (pt_cmpR op_ge (pv 4) (pe_tab M rfl tb_SPANS (pv 0)) (nomk _))))
      (pss_cons (ps_set (i := 6) sc_sum_marks.nd rfl (by first | exact Or.inl rfl | exact Or.inr rfl) (pe_callC c_is_over (hr.mono (by decide)) (pa_cons (pv 0) (pa_cons (pe_op op_add (pe_op op_add (pe_callC c_signed (hr.mono (by decide)) (pa_cons (pv 0) (pa_cons (pv 1) pa_nil))) (pe_callC c_signed (hr.mono (by decide)) (pa_cons (pv 0) (pa_cons (pv 2) pa_nil)))) (pv 3)) pa_nil))))
      (pss_one (ps_ret (pe_callC c_result_marks (hr.mono (by decide)) (pa_cons (pv 0) (pa_cons (pv 4) (pa_cons (pv 5) (pa_cons (pv 6) pa_nil)))))))))), ?_⟩
    have hp := pw hw
    rw [st_sum_marks]
    walk_at "vz"
    refine ⟨_, span_at hw, ?_⟩
    walk_at "vz"
    exact ⟨hw, hw, hw, hw, k⟩
theorem ok_less_marks (F : Fun K "less_marks" "less_marks" s_less_marks f fd) (c_signed : Cal P w K mg base "signed" 1 ["width", "number"] sp_signed)
    (c_is_over : Cal P w K mg base "is_over" 1 ["width", "number"] sp_is_over) (c_result_marks : Cal P w K mg base "result_marks" 2 ["width", "result", "carry", "over"] sp_result_marks) :
    FnOk P w K mg base CX0 3 f fd ["width", "a", "b", "k"] sp_less_marks := by
  refine F.ok sc_less_marks (fun vs H Q E h => spN_len h) (fun cdv A outer s H vs Q E hr h => ?_)
  obtain ⟨w', _, rfl, h'0⟩ := spN_i h
  obtain ⟨a, _, rfl, h'1⟩ := spN_i h'0
  obtain ⟨b, _, rfl, h'2⟩ := spN_i h'1
  obtain ⟨c, _, rfl, h'3⟩ := spN_i h'2
  obtain ⟨rfl, h'n⟩ := spN_nil h'3
  clear h h'0 h'1 h'2 h'3
  obtain ⟨hw, k⟩ := h'n
  · skip
    refine ⟨_, (pss_cons (ps_set (i := 4) sc_less_marks.nd rfl (by first | exact Or.inl rfl | exact Or.inr rfl) (pe_op op_sub (pe_op op_sub (pv 1) (pv 2)) (pv 3)))
      (pss_cons (ps_set (i := 5) sc_less_marks.nd rfl (by first | exact Or.inl rfl | exact Or.inr rfl) (pe_ifC (pt_cmpR op_lt (pv 4) pe_int (nomk _))))
      (pss_cons (ps_set (i := 6) sc_less_marks.nd rfl (by first | exact Or.inl rfl | exact Or.inr rfl) (pe_callC c_is_over (hr.mono (by decide)) (pa_cons (pv 0) (pa_cons (pe_op op_sub (pe_op op_sub (pe_callC c_signed (hr.mono (by decide)) (pa_cons (pv 0) (pa_cons (pv 1) pa_nil))) (pe_callC c_signed (hr.mono (by decide)) (pa_cons (pv 0) (pa_cons (pv 2) pa_nil)))) (pv 3)) pa_nil))))
      (pss_one (ps_ret (pe_callC c_result_marks (hr.mono (by decide)) (pa_cons (pv 0) (pa_cons (pv 4) (pa_cons (pv 5) (pa_cons (pv 6) pa_nil)))))))))), ?_⟩
    have hp := pw hw
    rw [st_less_marks]
    walk_at "vz"
    exact ⟨hw, hw, hw, hw, k⟩
theorem ok_bits_marks (F : Fun K "bits_marks" "bits_marks" s_bits_marks f fd) : FnOk P w K mg base CX0 1 f fd ["a"] sp_bits_marks := by
  refine F.ok sc_bits_marks (fun vs H Q E h => spN_len h) (fun cdv A outer s H vs Q E hr h => ?_)
  obtain ⟨a, _, rfl, h'0⟩ := spN_i h
  obtain ⟨rfl, h'n⟩ := spN_nil h'0
  clear h h'0
  have k := h'n
  · skip
    refine ⟨_, (pss_one (ps_ret (pe_tupA (pa_cons (pe_op op_mod (pv 0) pe_int) (pa_cons (pe_op op_mod (pe_op op_fdiv (pv 0) pe_int) pe_int) (pa_cons (pe_op op_mod (pe_op op_fdiv (pv 0) pe_int) pe_int) (pa_cons (pe_op op_mod (pe_op op_fdiv (pv 0) pe_int) pe_int) pa_nil))))))), ?_⟩
    rw [st_bits_marks]
    walk_at "vz"
    exact k.new (Same.refl _) rfl
theorem ok_with_carry (F : Fun K "with_carry" "with_carry" s_with_carry f fd) : FnOk P w K mg base CX0 1 f fd ["marks", "carry"] (sp_with_carry K) := by
  refine F.ok sc_with_carry (fun vs H Q E h => spN_len h) (fun cdv A outer s H vs Q E hr h => ?_)
  obtain ⟨p, _, rfl, h'0⟩ := spN_r h
  obtain ⟨c, _, rfl, h'1⟩ := spN_i h'0
  obtain ⟨rfl, h'n⟩ := spN_nil h'1
  clear h h'0 h'1
  obtain ⟨l, hl, hS, k⟩ := h'n
  · skip
    obtain ⟨l0, l1, l2, l3, rfl⟩ := four l hl
    refine ⟨_, (pss_one (ps_ret (pe_tupA (pa_cons (pe_ix ix_tup (pv 0) pe_int (fun _ _ => rfl)) (pa_cons (pe_ix ix_tup (pv 0) pe_int (fun _ _ => rfl)) (pa_cons (pv 1) (pa_cons (pe_ix ix_tup (pv 0) pe_int (fun _ _ => rfl)) pa_nil))))))), ?_⟩
    rw [st_with_carry]
    walk_at "vz"
    exact ⟨_, _, hS, rfl, _, _, hS, rfl, _, _, hS, rfl, k.new (Same.refl _) rfl⟩
theorem ok_marks_of (F : Fun K "marks_of" "marks_of" s_marks_of f fd) (M : mg "SPANS" = some (.ref dS)) (tb_SPANS : TabK P w K dS spans) (c_bits_marks : Cal P w K mg base "bits_marks" 1 ["a"] sp_bits_marks)
    (c_sum_marks : Cal P w K mg base "sum_marks" 3 ["width", "a", "b", "k"] sp_sum_marks) (c_less_marks : Cal P w K mg base "less_marks" 3 ["width", "a", "b", "k"] sp_less_marks)
    (c_result_marks : Cal P w K mg base "result_marks" 2 ["width", "result", "carry", "over"] sp_result_marks) (c_with_carry : Cal P w K mg base "with_carry" 1 ["marks", "carry"] (sp_with_carry K)) :
    FnOk P w K mg base CX0 4 f fd ["width", "record"] (sp_marks_of K) := by
  refine F.ok sc_marks_of (fun vs H Q E h => spN_len h) (fun cdv A outer s H vs Q E hr h => ?_)
  obtain ⟨w', _, rfl, h'0⟩ := spN_i h
  obtain ⟨p, _, rfl, h'1⟩ := spN_r h'0
  obtain ⟨rfl, h'n⟩ := spN_nil h'1
  clear h h'0 h'1
  obtain ⟨hw, x, a, b, c, hS, k⟩ := h'n
  · skip
    refine ⟨_, (pss_cons (ps_set (i := 2) sc_marks_of.nd rfl (by first | exact Or.inl rfl | exact Or.inr rfl) (pe_ix ix_tup (pv 1) pe_int (fun _ _ => rfl)))
      (pss_cons (ps_set (i := 3) sc_marks_of.nd rfl (by first | exact Or.inl rfl | exact Or.inr rfl) (pe_ix ix_tup (pv 1) pe_int (fun _ _ => rfl)))
      (pss_cons (ps_if (pt_cmpR op_eq (pv 2) pe_str (nomk _)) (pss_one (ps_ret (pe_callC c_bits_marks (hr.mono (by decide)) (pa_cons (pv 3) pa_nil)))) pss_nil)
      (pss_cons (ps_if (pt_cmpR op_eq (pv 2) pe_str (nomk _)) (pss_one (ps_ret (pe_callC c_sum_marks (hr.mono (by decide)) (pa_cons (pv 0) (pa_cons (pv 3) (pa_cons (pe_ix ix_tup (pv 1) pe_int (fun _ _ => rfl)) (pa_cons (pe_op op_mod (pe_ix ix_tup (pv 1) pe_int (fun _ _ => rfl)) pe_int) pa_nil))))))) pss_nil)
      (pss_cons (ps_if (pt_cmpR op_eq (pv 2) pe_str (nomk _)) (pss_one (ps_ret (pe_callC c_less_marks (hr.mono (by decide)) (pa_cons (pv 0) (pa_cons (pv 3) (pa_cons (pe_ix ix_tup (pv 1) pe_int (fun _ _ => rfl)) (pa_cons (pe_op op_mod (pe_ix ix_tup (pv 1) pe_int (fun _ _ => rfl)) pe_int) pa_nil))))))) pss_nil)
      (pss_cons (ps_if (pt_cmpR op_eq (pv 2) pe_str (nomk _)) (pss_one (ps_ret (pe_callC c_result_marks (hr.mono (by decide)) (pa_cons (pv 0) (pa_cons (pv 3) (pa_cons pe_int (pa_cons pe_int pa_nil))))))) pss_nil)
      (pss_cons (ps_if (pt_cmpR op_eq (pv 2) pe_str (nomk _)) (pss_one (ps_ret (pe_callC c_result_marks (hr.mono (by decide)) (pa_cons (pv 0) (pa_cons (pe_op op_add (pv 3) (pv 3)) (pa_cons (pe_op op_mod (pe_op op_fdivP (pv 3) (pe_op op_fdiv (pe_tab M rfl tb_SPANS (pv 0)) pe_int)) pe_int) (pa_cons pe_int pa_nil))))))) pss_nil)
      (pss_cons (ps_if (pt_cmpR op_eq (pv 2) pe_str (nomk _)) (pss_one (ps_ret (pe_callC c_result_marks (hr.mono (by decide)) (pa_cons (pv 0) (pa_cons (pe_op op_fdiv (pv 3) pe_int) (pa_cons (pe_op op_mod (pv 3) pe_int) (pa_cons pe_int pa_nil))))))) pss_nil)
      (pss_cons (ps_if (pt_cmpR op_eq (pv 2) pe_str (nomk _)) (pss_one (ps_ret (pe_callC c_with_carry (hr.mono (by decide)) (pa_cons (pe_callC c_sum_marks (hr.mono (by decide)) (pa_cons (pv 0) (pa_cons (pv 3) (pa_cons pe_int (pa_cons pe_int pa_nil))))) (pa_cons (pe_op op_mod (pe_ix ix_tup (pv 1) pe_int (fun _ _ => rfl)) pe_int) pa_nil))))) pss_nil)
      (pss_one (ps_ret (pe_callC c_with_carry (hr.mono (by decide)) (pa_cons (pe_callC c_less_marks (hr.mono (by decide)) (pa_cons (pv 0) (pa_cons (pv 3) (pa_cons pe_int (pa_cons pe_int pa_nil))))) (pa_cons (pe_op op_mod (pe_ix ix_tup (pv 1) pe_int (fun _ _ => rfl)) pe_int) pa_nil)))))))))))))), ?_⟩
    have hp := pw hw
    rw [st_marks_of]
    walk_at "vz"
    refine ⟨_, _, hS, rfl, _, _, hS, rfl, ?_⟩
    unfold mks at k
    walk_at "vz"
    by_cases h1 : x = "bits"
    · rw [if_pos h1] at k ⊢
      exact k
    rw [if_neg h1] at k ⊢
    by_cases h2 : x = "sum"
    · rw [if_pos h2] at k ⊢
      refine ⟨_, _, hS, rfl, _, _, hS, rfl, ?_⟩
      walk_at "vz"
      exact ⟨hw, k⟩
    rw [if_neg h2] at k ⊢
    by_cases h3 : x = "less"
    · rw [if_pos h3] at k ⊢
      refine ⟨_, _, hS, rfl, _, _, hS, rfl, ?_⟩
      walk_at "vz"
      exact ⟨hw, k⟩
    rw [if_neg h3] at k ⊢
    by_cases h4 : x = "logic"
    · rw [if_pos h4] at k ⊢
      exact ⟨hw, k⟩
    rw [if_neg h4] at k ⊢
    by_cases h5 : x = "left"
    · rw [if_pos h5] at k ⊢
      refine ⟨_, span_at hw, ?_⟩
      walk_at "vz"
      have e : (2 : Int) ^ w'.toNat / 2 = 2 ^ (w' - 1).toNat := by omega
      rw [e]
      exact ⟨⟨by omega, by omega⟩, hw, k⟩
    rw [if_neg h5] at k ⊢
    by_cases h6 : x = "right"
    · rw [if_pos h6] at k ⊢
      exact ⟨hw, k⟩
    rw [if_neg h6] at k ⊢
    by_cases h7 : x = "more"
    · rw [if_pos h7] at k ⊢
      refine ⟨hw, fun q H1 s1 n1 e1 => ⟨_, _, s1.seqT hS, rfl, ?_⟩⟩
      walk_at "vz"
      exact ⟨_, rfl, SqT.of e1, k.via s1 rfl⟩
    · rw [if_neg h7] at k ⊢
      refine ⟨hw, fun q H1 s1 n1 e1 => ⟨_, _, s1.seqT hS, rfl, ?_⟩⟩
      walk_at "vz"
      exact ⟨_, rfl, SqT.of e1, k.via s1 rfl⟩
end
theorem list_bl {xs : List Int} {g : Int → Bool} {vs : List V} (hl : vs.length = xs.length) (hv : ∀ (j : Nat) (v : V), vs[j]? = some v → ∃ x, xs[j]? = some x ∧ v = V.bl (g x)) : vs = (xs.map g).map V.bl := by
  refine List.ext_getElem? fun j => ?_
  by_cases hj : j < vs.length
  · obtain ⟨x, e1, e2⟩ := hv j _ (List.getElem?_eq_getElem hj)
    rw [List.getElem?_eq_getElem hj, e2, List.getElem?_map, List.getElem?_map, e1]
    rfl
  · rw [List.getElem?_eq_none (by omega), List.getElem?_eq_none (by simp; omega)]
theorem item_int {ms : List Int} {i : Nat} {x : V} (h : (ms.map V.int)[i]? = some x) : ∃ n, ms[i]? = some n ∧ x = .int n := by
  rw [List.getElem?_map] at h
  obtain ⟨n, e1, e2⟩ := Option.map_eq_some_iff.mp h
  exact ⟨n, e1, e2.symm⟩
section
variable {P : Program} {w : World} {K : PySem.W.Frag} {mg : Str → Option Value} {base : Heap} {f dS C : Addr} {fd : FuncData}
theorem ok_is_between (F : Fun K "is_between" "is_between" s_is_between f fd) (B : Bls mg) : FnOk P w K mg base CX0 1 f fd ["thing", "least", "greatest"] sp_between := by
  refine F.ok sc_is_between (fun vs H Q E h => spN_len h) (fun cdv A outer s H vs Q E hr h => ?_)
  obtain ⟨n, _, rfl, h'0⟩ := spN_i h
  obtain ⟨a, _, rfl, h'1⟩ := spN_i h'0
  obtain ⟨b, _, rfl, h'2⟩ := spN_i h'1
  obtain ⟨rfl, h'n⟩ := spN_nil h'2
  clear h h'0 h'1 h'2
  have k := h'n
  · skip
    refine ⟨_, (pss_one (ps_ret (pe_and (pe_callB call_isi rfl B.isinstance bb_isinstance (pa_cons (pv 0) (pa_cons (pe_bltn (v := .ty "int") rfl B.int bb_int rfl) pa_nil))) (pe_and (pe_not (pe_callB call_isi rfl B.isinstance bb_isinstance (pa_cons (pv 0) (pa_cons (pe_bltn (v := .ty "bool") rfl B.bool bb_bool rfl) pa_nil)))) (pe_one (pe_chain op_le op_le (pv 1) (pv 0) (pv 2))))))), ?_⟩
    rw [st_is_between]
    walk_at "vz"
    exact ite2 (fun h => qb k (by simp [btw, h])) (fun h => qb k (by simp [btw, h]))
theorem ok_are_between (F : Fun K "are_between" "are_between" s_are_between f fd) (B : Bls mg) (c_is_between : Cal P w K mg base "is_between" 1 ["thing", "least", "greatest"] sp_between) :
    FnOk P w K mg base CX0 2 f fd ["things", "least", "greatest"] (sp_are K) := by
  refine F.ok sc_are_between (fun vs H Q E h => spN_len h) (fun cdv A outer s H vs Q E hr h => ?_)
  obtain ⟨p, _, rfl, h'0⟩ := spN_r h
  obtain ⟨a, _, rfl, h'1⟩ := spN_i h'0
  obtain ⟨b, _, rfl, h'2⟩ := spN_i h'1
  obtain ⟨rfl, h'n⟩ := spN_nil h'2
  clear h h'0 h'1 h'2
  obtain ⟨xs, hq, hz, k⟩ := h'n
  · skip
    refine ⟨_, (pss_one (ps_ret (pe_callB (call_allR rfl) rfl B.all bb_all (pa_cons (pe_comp rfl (BlkOk.ofS (tn := ["thing"]) (M := ["things", "least", "greatest"]) (N := ["things", "least", "greatest"]) (sc := defScope s_are_between) rfl rfl rfl (by decide +kernel)) (pi_seq (pv 0)) (fun _ _ _ _ => (pg_name (i := 0) (show List.Nodup ((["thing"] : List Str) ++ (["things", "least", "greatest"] : List Str)) by decide +kernel) rfl (by first | exact Or.inl rfl | exact Or.inr rfl))) (fun _ _ _ _ => pts_nil) (fun _ _ _ _ => (pe_callC c_is_between (hr.mono (by decide)) (pa_cons (pv 0) (pa_cons (pv 2) (pa_cons (pv 3) pa_nil)))))) pa_nil)))), ?_⟩
    rw [st_are_between]
    walk_at "vz"
    have hz' : (xs.map V.int).length ≤ sizeLine := by rw [List.length_map, sizeLine_eq]; omega
    rcases hq with hq | hq
    · refine .inl ⟨⟨_, hq⟩, ?_⟩
      refine compR_list (xs.map V.int) (fun i v => ∃ x, xs[i]? = some x ∧ v = .bl (btw x a b)) hq hz' (fun i x H' q hx s1 kq => ?_) (fun vs p' H1 H2 hl hv s1 n1 => ?_)
      · obtain ⟨n, e1, rfl⟩ := item_int hx
        walk_at "vz"
        exact kq _ _ (Same.refl _) ⟨n, e1, rfl⟩
      · rw [list_bl (by simpa using hl) hv] at n1
        walk_at "vz"
        exact ⟨_, SqL.of n1.at', k _ (s1.trans n1.same)⟩
    · refine .inr ⟨⟨_, hq⟩, ?_⟩
      refine compR_tup (xs.map V.int) (fun i v => ∃ x, xs[i]? = some x ∧ v = .bl (btw x a b)) hq hz' (fun i x H' q hx s1 kq => ?_) (fun vs p' H1 H2 hl hv s1 n1 => ?_)
      · obtain ⟨n, e1, rfl⟩ := item_int hx
        walk_at "vz"
        exact kq _ _ (Same.refl _) ⟨n, e1, rfl⟩
      · rw [list_bl (by simpa using hl) hv] at n1
        walk_at "vz"
        exact ⟨_, SqL.of n1.at', k _ (s1.trans n1.same)⟩
theorem ok_is_width (F : Fun K "is_width" "is_width" s_is_width f fd) (M_SPANS : mg "SPANS" = some (.ref dS)) (tb_SPANS : TabK P w K dS spans) (sm_SPANS : (dS == sysModules) = false) (c_is_between : Cal P w K mg base "is_between" 1 ["thing", "least", "greatest"] sp_between) :
    FnOk P w K mg base CX0 2 f fd ["width"] sp_width := by
  refine F.ok sc_is_width (fun vs H Q E h => spN_len h) (fun cdv A outer s H vs Q E hr h => ?_)
  obtain ⟨n, _, rfl, h'0⟩ := spN_i h
  obtain ⟨rfl, h'n⟩ := spN_nil h'0
  clear h h'0
  obtain ⟨hw, k⟩ := h'n
  · skip
    refine ⟨_, (pss_one (ps_ret (pe_and (pe_callC c_is_between (hr.mono (by decide)) (pa_cons (pv 0) (pa_cons pe_int (pa_cons pe_int pa_nil)))) (pe_one (pe_cmpR (op_inT tb_SPANS sm_SPANS) (pv 0) (pe_glob (v := .ref _) rfl M_SPANS rfl) (nomk _)))))), ?_⟩
    rw [st_is_width]
    walk_at "vz"
    have e : btw n 8 32 = true := by rcases hw with rfl | rfl | rfl <;> rfl
    rw [e, span_at hw]
    exact iteT k
theorem in_allP {p : Int → Bool} {m : Int} {xs : List Int} (h : In m xs) (e : p = fun x => btw x 0 (m - 1)) : ((xs.map p).all id) = true := by rw [e]; exact in_all h
theorem ok_is_floor (F : Fun K "is_floor" "is_floor" s_is_floor f fd) (B : Bls mg) (c_are_between : Cal P w K mg base "are_between" 2 ["things", "least", "greatest"] (sp_are K)) :
    FnOk P w K mg base CX0 3 f fd ["floor"] (sp_floor K) := by
  refine F.ok sc_is_floor (fun vs H Q E h => spN_len h) (fun cdv A outer s H vs Q E hr h => ?_)
  obtain ⟨p, _, rfl, h'0⟩ := spN_r h
  obtain ⟨rfl, h'n⟩ := spN_nil h'0
  clear h h'0
  obtain ⟨xs, hq, hl, hi, k⟩ := h'n
  · skip
    refine ⟨_, (pss_one (ps_ret (pe_and (pe_callB call_isiL rfl B.isinstance bb_isinstance (pa_cons (pv 0) (pa_cons (pe_bltn (v := .ty "list") rfl B.list bb_list rfl) pa_nil))) (pe_and (pe_cmpR op_eq (pe_callB call_lenR rfl B.len bb_len (pa_cons (pv 0) pa_nil)) pe_int (nomk _)) (pe_one (pe_callC c_are_between (hr.mono (by decide)) (pa_cons (pv 0) (pa_cons pe_int (pa_cons pe_int pa_nil))))))))), ?_⟩
    rw [st_is_floor]
    walk_at "vz"
    refine ⟨⟨_, hq⟩, _, .inl hq, ?_⟩
    rw [if_pos (by rw [List.length_map, hl]; rfl)]
    exact ⟨xs, .inl hq, by omega, fun H' s' => qb (k H' s') (in_allP hi rfl)⟩
theorem ok_is_boxes (F : Fun K "is_boxes" "is_boxes" s_is_boxes f fd) (M : mg "SPANS" = some (.ref dS)) (tb_SPANS : TabK P w K dS spans) (B : Bls mg) (c_are_between : Cal P w K mg base "are_between" 2 ["things", "least", "greatest"] (sp_are K)) :
    FnOk P w K mg base CX0 3 f fd ["width", "boxes"] (sp_boxes K) := by
  refine F.ok sc_is_boxes (fun vs H Q E h => spN_len h) (fun cdv A outer s H vs Q E hr h => ?_)
  obtain ⟨w', _, rfl, h'0⟩ := spN_i h
  obtain ⟨p, _, rfl, h'1⟩ := spN_r h'0
  obtain ⟨rfl, h'n⟩ := spN_nil h'1
  clear h h'0 h'1
  obtain ⟨hw, xs, hq, hl, hi, k⟩ := h'n
  · skip
    refine ⟨_, (pss_one (ps_ret (pe_and (pe_callB call_isiL rfl B.isinstance bb_isinstance (pa_cons (pv 1) (pa_cons (pe_bltn (v := .ty "list") rfl B.list bb_list rfl) pa_nil))) (pe_and (pe_cmpR op_eq (pe_callB call_lenR rfl B.len bb_len (pa_cons (pv 1) pa_nil)) pe_int (nomk _)) (pe_one (pe_callC c_are_between (hr.mono (by decide)) (pa_cons (pv 1) (pa_cons pe_int (pa_cons (pe_op op_sub (pe_tab M rfl tb_SPANS (pv 0)) pe_int) pa_nil))))))))), ?_⟩
    rw [st_is_boxes]
    walk_at "vz"
    refine ⟨⟨_, hq⟩, _, .inl hq, ?_⟩
    rw [if_pos (by rw [List.length_map, hl]; rfl)]
    refine ⟨_, span_at hw, ?_⟩
    walk_at "vz"
    exact ⟨xs, .inl hq, by omega, fun H' s' => qb (k H' s') (in_allP hi rfl)⟩
theorem ok_is_marks (F : Fun K "is_marks" "is_marks" s_is_marks f fd) (B : Bls mg) (c_are_between : Cal P w K mg base "are_between" 2 ["things", "least", "greatest"] (sp_are K)) :
    FnOk P w K mg base CX0 3 f fd ["marks"] (sp_marks K) := by
  refine F.ok sc_is_marks (fun vs H Q E h => spN_len h) (fun cdv A outer s H vs Q E hr h => ?_)
  obtain ⟨p, _, rfl, h'0⟩ := spN_r h
  obtain ⟨rfl, h'n⟩ := spN_nil h'0
  clear h h'0
  obtain ⟨xs, hq, hl, hi, k⟩ := h'n
  · skip
    refine ⟨_, (pss_one (ps_ret (pe_and (pe_callB call_isiT rfl B.isinstance bb_isinstance (pa_cons (pv 0) (pa_cons (pe_bltn (v := .ty "tuple") rfl B.tuple bb_tuple rfl) pa_nil))) (pe_and (pe_cmpR op_eq (pe_callB call_lenR rfl B.len bb_len (pa_cons (pv 0) pa_nil)) pe_int (nomk _)) (pe_one (pe_callC c_are_between (hr.mono (by decide)) (pa_cons (pv 0) (pa_cons pe_int (pa_cons pe_int pa_nil))))))))), ?_⟩
    rw [st_is_marks]
    walk_at "vz"
    refine ⟨⟨_, hq⟩, _, .inr hq, ?_⟩
    rw [if_pos (by rw [List.length_map, hl]; rfl)]
    exact ⟨xs, .inr hq, by omega, fun H' s' => qb (k H' s') (in_allP hi rfl)⟩
theorem ok_is_wards (F : Fun K "is_wards" "is_wards" s_is_wards f fd) (B : Bls mg) (c_are_between : Cal P w K mg base "are_between" 2 ["things", "least", "greatest"] (sp_are K)) :
    FnOk P w K mg base CX0 3 f fd ["wards"] (sp_wards K) := by
  refine F.ok sc_is_wards (fun vs H Q E h => spN_len h) (fun cdv A outer s H vs Q E hr h => ?_)
  obtain ⟨p, _, rfl, h'0⟩ := spN_r h
  obtain ⟨rfl, h'n⟩ := spN_nil h'0
  clear h h'0
  obtain ⟨xs, hq, hl, hi, k⟩ := h'n
  · skip
    refine ⟨_, (pss_one (ps_ret (pe_and (pe_callB call_isiL rfl B.isinstance bb_isinstance (pa_cons (pv 0) (pa_cons (pe_bltn (v := .ty "list") rfl B.list bb_list rfl) pa_nil))) (pe_one (pe_callC c_are_between (hr.mono (by decide)) (pa_cons (pv 0) (pa_cons pe_int (pa_cons pe_int pa_nil)))))))), ?_⟩
    rw [st_is_wards]
    walk_at "vz"
    exact ⟨⟨_, hq⟩, xs, .inl hq, by omega, fun H' s' => qb (k H' s') (in_allP hi rfl)⟩
theorem ok_record_of (F : Fun K "record_of" "record_of" s_record_of f fd) : FnOk P w K mg base CX0 1 f fd ["marks"] (sp_record K) := by
  refine F.ok sc_record_of (fun vs H Q E h => spN_len h) (fun cdv A outer s H vs Q E hr h => ?_)
  obtain ⟨p, _, rfl, h'0⟩ := spN_r h
  obtain ⟨rfl, h'n⟩ := spN_nil h'0
  clear h h'0
  obtain ⟨a, b, c, d, hS, k⟩ := h'n
  · skip
    refine ⟨_, (pss_one (ps_ret (pe_tupA (pa_cons pe_str (pa_cons (pe_op op_add (pe_op op_add (pe_op op_add (pe_ix ix_tup (pv 0) pe_int (fun _ _ => rfl)) (pe_op op_mul pe_int (pe_ix ix_tup (pv 0) pe_int (fun _ _ => rfl)))) (pe_op op_mul pe_int (pe_ix ix_tup (pv 0) pe_int (fun _ _ => rfl)))) (pe_op op_mul pe_int (pe_ix ix_tup (pv 0) pe_int (fun _ _ => rfl)))) (pa_cons pe_int (pa_cons pe_int pa_nil))))))), ?_⟩
    rw [st_record_of]
    walk_at "vz"
    refine ⟨_, _, hS, rfl, _, _, hS, rfl, ?_⟩
    walk_at "vz"
    refine ⟨_, _, hS, rfl, ?_⟩
    walk_at "vz"
    refine ⟨_, _, hS, rfl, ?_⟩
    walk_at "vz"
    exact k
end
section
variable {K : PySem.W.Frag} {H : Hp} {v : V} {o : Option (List Int)} {R : Hp → Prop} {Kt : V → Hp → Prop} {w' : Int}
theorem chkB (h : OL K H v o) (hw : W w') (l : ∀ xs, o = some xs → xs.length = 8 ∧ In (M w') xs) (k : ∀ H', Same H H' → R H') : if ¬v = V.non then sp_boxes K [V.int w', v] H (Rd.isB fun c H1 => if c = false then False else R H1) E0 else R H := by
  cases h with
  | non => rw [if_neg (fun z => z rfl)]; exact k _ (Same.refl _)
  | ls hq =>
    rw [if_pos (fun z => nomatch z), rd_boxes]
    exact ⟨hw, _, hq, (l _ rfl).1, (l _ rfl).2, fun H' s' => by rw [Rd.isB_bl, if_neg (fun z => nomatch z)]; exact k _ s'⟩
theorem chkM (h : OT K H v o) (l : ∀ xs, o = some xs → xs.length = 4 ∧ In 2 xs) (k : ∀ H', Same H H' → R H') : if ¬v = V.non then sp_marks K [v] H (Rd.isB fun c H1 => if c = false then False else R H1) E0 else R H := by
  cases h with
  | non => rw [if_neg (fun z => z rfl)]; exact k _ (Same.refl _)
  | ls hq =>
    rw [if_pos (fun z => nomatch z), rd_marks]
    exact ⟨_, hq, (l _ rfl).1, (l _ rfl).2, fun H' s' => by rw [Rd.isB_bl, if_neg (fun z => nomatch z)]; exact k _ s'⟩
theorem chkW (h : OL K H v o) (l : ∀ xs, o = some xs → xs.length ≤ 60 ∧ In 16 xs) (k : ∀ H', Same H H' → R H') : if ¬v = V.non then sp_wards K [v] H (Rd.isB fun c H1 => if c = false then False else R H1) E0 else R H := by
  cases h with
  | non => rw [if_neg (fun z => z rfl)]; exact k _ (Same.refl _)
  | ls hq =>
    rw [if_pos (fun z => nomatch z), rd_wards]
    exact ⟨_, hq, (l _ rfl).1, (l _ rfl).2, fun H' s' => by rw [Rd.isB_bl, if_neg (fun z => nomatch z)]; exact k _ s'⟩
theorem cutB (h : OL K H v o) (k : ∀ (p : Addr) (H' : Hp), Same H H' → H p = none → H' p = some (.lst ((o.getD (List.replicate 8 0)).map V.int)) → Kt (.ref p) H') :
    if v = V.non then ∀ (p : Addr) (H2 : Hp), New H p (.lst [V.int 0]) H2 → ∃ xs, H2 p = some (.lst xs) ∧ xs.length * 8 ≤ 16777216 ∧ ∀ (p' : Addr) (H3 : Hp), New H2 p' (.lst (List.replicate 8 xs).flatten) H3 → Kt (.ref p') H3 else rListOfA K [v] H Kt := by
  cases h with
  | non =>
    rw [if_pos rfl]
    exact fun p H2 n => ⟨_, n.at', by decide, fun p' H3 n3 => k p' H3 (n.same.trans n3.same) (n.same.free n3.nw) n3.at'⟩
  | ls hq =>
    rw [if_neg (fun z => nomatch z)]
    exact ⟨_, .inl hq, fun p H2 n => k p H2 n.same n.nw n.at'⟩
theorem cutM (h : OT K H v o) (l : ∀ xs, o = some xs → xs.length = 4 ∧ In 2 xs) (k : ∀ (q : Addr) (H' : Hp), Same H H' → H' q = some (.tup [.str "bits", .int (mkN (o.getD [0, 0, 0, 0])), .int 0, .int 0]) → Kt (.ref q) H') :
    if v = V.non then ∀ (p : Addr) (H2 : Hp), New H p (.tup [V.int 0, V.int 0, V.int 0, V.int 0]) H2 → ∃ a b c d : Int, SqT K H2 p [V.int a, V.int b, V.int c, V.int d] ∧ ∀ (q : Addr) (H' : Hp), New H2 q (.tup [.str "bits", .int (a + 2 * b + 4 * c + 8 * d), .int 0, .int 0]) H' → Kt (.ref q) H' else sp_record K [v] H Kt E0 := by
  cases h with
  | non =>
    rw [if_pos rfl]
    exact fun p H2 n => ⟨0, 0, 0, 0, SqT.of n.at', fun q H' n' => k q H' (n.same.trans n'.same) n'.at'⟩
  | ls hq =>
    rw [if_neg (fun z => nomatch z), rd_record]
    obtain ⟨a, b, c, d, rfl⟩ := four _ (l _ rfl).1
    exact ⟨a, b, c, d, hq, fun q H' n' => k q H' n'.same n'.at'⟩
theorem cutW (h : OL K H v o) (l : ∀ xs, o = some xs → xs.length ≤ 60 ∧ In 16 xs) (k : ∀ (p : Addr) (H' : Hp) (ms : List Int), Same H H' → H p = none → H' p = some (.lst (ms.map V.int)) → Pgs ms (o.getD []) → Kt (.ref p) H') :
    if v = V.non then ∀ (p : Addr) (H2 : Hp), New H p (.lst []) H2 → Kt (.ref p) H2 else srtQ K Kt [v] H := by
  cases h with
  | non =>
    rw [if_pos rfl]
    exact fun p H2 n => k p H2 [] n.same n.nw n.at' ⟨fun _ => Iff.rfl, Nat.le_refl _⟩
  | ls hq =>
    rw [if_neg (fun z => nomatch z), Rd.srtR]
    exact ⟨_, hq, by have := (l _ rfl).1; omega, fun p ms H2 n hm _ hl => k p H2 ms n.same n.nw n.at' ⟨hm, hl⟩⟩
end
/-- an instance written: all else is as it was -/
theorem at_wi {H H2 : Hp} {g p : Addr} {o u : HO} (w : Wrt H g o H2) (ne : p ≠ g) (e : H p = some u) : H2 p = some u := by rw [w.els p ne]; exact e
theorem sqL_wi {K : PySem.W.Frag} {H H2 : Hp} {g p C dx : Addr} {fs : List (Str × V)} {o : HO} {xs : List V} (w : Wrt H g o H2) (hg : H g = some (.ins C dx fs)) (h : SqL K H p xs) : SqL K H2 p xs := by
  rcases h with (h | ⟨u, h⟩) | h
  · exact .inl (.inl (at_wi w (fun z => by rw [z, hg] at h; cases h) h))
  · exact .inl (.inr ⟨u, at_wi w (fun z => by rw [z, hg] at h; cases h) h⟩)
  · exact .inr h
theorem sqT_wi {K : PySem.W.Frag} {H H2 : Hp} {g p C dx : Addr} {fs : List (Str × V)} {o : HO} {xs : List V} (w : Wrt H g o H2) (hg : H g = some (.ins C dx fs)) (h : SqT K H p xs) : SqT K H2 p xs := by
  rcases h with (h | ⟨u, h⟩) | h
  · exact .inl (.inl (at_wi w (fun z => by rw [z, hg] at h; cases h) h))
  · exact .inl (.inr ⟨u, at_wi w (fun z => by rw [z, hg] at h; cases h) h⟩)
  · exact .inr h
theorem GArg.wi {K : PySem.W.Frag} {H H2 : Hp} {g C dx : Addr} {fs : List (Str × V)} {o : HO} {w pl : Int} {pf : Addr} {vb vm vw : V} {fl : List Int} {bx mk wd : Option (List Int)} (h : GArg K H w pf vb vm vw pl fl bx mk wd) (x : Wrt H g o H2) (hg : H g = some (.ins C dx fs)) :
    GArg K H2 w pf vb vm vw pl fl bx mk wd := by
  have l : ∀ {v o'}, OL K H v o' → OL K H2 v o' := fun h => by
    cases h with
    | non => exact .non
    | ls h => exact .ls (sqL_wi x hg h)
  have t : ∀ {v o'}, OT K H v o' → OT K H2 v o' := fun h => by
    cases h with
    | non => exact .non
    | ls h => exact .ls (sqT_wi x hg h)
  exact ⟨h.hw, sqL_wi x hg h.hf, h.lf, h.nf, l h.hb, h.lb, t h.hm, h.lm, l h.hd, h.ld, h.p0, h.p1⟩
theorem x_tr {g : Addr} {H H1 H2 : Hp} (a : SameX g H H1) (b : SameX g H1 H2) : SameX g H H2 := fun c o n e => b c o n (a c o n e)
theorem x_sm {g : Addr} {H H1 : Hp} (a : Same H H1) : SameX g H H1 := fun c o _ e => a c o e
theorem x_wr {g : Addr} {H H1 : Hp} {o : HO} (a : Wrt H g o H1) : SameX g H H1 := fun c u n e => by rw [a.els c n]; exact e
theorem x_free {g p : Addr} {H H1 : Hp} (a : SameX g H H1) (n : p ≠ g) (e : H1 p = none) : H p = none := by
  cases h : H p with
  | none => rfl
  | some u => rw [a p u n h] at e; cases e
section
variable {P : Program} {w : World} {K : PySem.W.Frag} {mg : Str → Option Value} {base : Heap} {f dS C : Addr} {fd : FuncData}
theorem ok_check_guest (F : Fun K "check_guest" "check_guest" s_check_guest f fd) (c_is_between : Cal P w K mg base "is_between" 1 ["thing", "least", "greatest"] sp_between) (c_is_width : Cal P w K mg base "is_width" 2 ["width"] sp_width)
    (c_is_floor : Cal P w K mg base "is_floor" 3 ["floor"] (sp_floor K)) (c_is_boxes : Cal P w K mg base "is_boxes" 3 ["width", "boxes"] (sp_boxes K)) (c_is_marks : Cal P w K mg base "is_marks" 3 ["marks"] (sp_marks K)) (c_is_wards : Cal P w K mg base "is_wards" 3 ["wards"] (sp_wards K)) :
    FnOk P w K mg base CX0 4 f fd ["width", "floor", "boxes", "marks", "wards", "place"] (sp_check K) := by
  refine F.ok sc_check_guest (fun vs H Q E h => by obtain ⟨_, _, _, _, _, _, rfl, _⟩ := h; rfl) (fun cdv A outer s H vs Q E hr h => ?_)
  obtain ⟨w', pf, vb, vm, vw, pl, rfl, ⟨fl, bx, mk, wd, ga⟩, k⟩ := h
  refine ⟨_, (pss_cons (ps_if (PW.pt (pw_or (pt_not (pt_val (pe_callC c_is_width (hr.mono (by decide)) (pa_cons (pv 0) pa_nil)))) (pw_or (pt_not (pt_val (pe_callC c_is_floor (hr.mono (by decide)) (pa_cons (pv 1) pa_nil)))) (pw_or1 (pt_not (pt_val (pe_callC c_is_between (hr.mono (by decide)) (pa_cons (pv 5) (pa_cons pe_int (pa_cons pe_int pa_nil)))))))))) (pss_one ps_raise) pss_nil)
      (pss_cons (ps_if (PW.pt (pw_and (pt_cmpR op_notN (pv 2) pe_non (nomk _)) (pw_and1 (pt_not (pt_val (pe_callC c_is_boxes (hr.mono (by decide)) (pa_cons (pv 0) (pa_cons (pv 2) pa_nil)))))))) (pss_one ps_raise) pss_nil)
      (pss_cons (ps_if (PW.pt (pw_and (pt_cmpR op_notN (pv 3) pe_non (nomk _)) (pw_and1 (pt_not (pt_val (pe_callC c_is_marks (hr.mono (by decide)) (pa_cons (pv 3) pa_nil))))))) (pss_one ps_raise) pss_nil)
      (pss_one (ps_if (PW.pt (pw_and (pt_cmpR op_notN (pv 4) pe_non (nomk _)) (pw_and1 (pt_not (pt_val (pe_callC c_is_wards (hr.mono (by decide)) (pa_cons (pv 4) pa_nil))))))) (pss_one ps_raise) pss_nil))))), ?_⟩
  rw [st_check_guest]
  walk_at "vz"
  refine ⟨ga.hw, fl, ga.hf, ga.lf, ga.nf, fun H1 s1 => ?_⟩
  have hp : btw pl 0 255 = true := by
    have := ga.p0
    have := ga.p1
    simp [btw]
    omega
  rw [Rd.isB_bl, if_neg (fun z => nomatch z), hp, if_neg (fun z => nomatch z)]
  refine chkB (ga.hb.same s1) ga.hw ga.lb fun H2 s2 => ?_
  refine chkM (ga.hm.same (s1.trans s2)) ga.lm fun H3 s3 => ?_
  exact chkW (ga.hd.same (s1.trans (s2.trans s3))) ga.ld fun H4 s4 => k _ (s1.trans (s2.trans (s3.trans s4)))
theorem ok_Guest___init__ {ds : List Value} (F : FunD K "__init__" "Guest.__init__" s_Guest___init__ f fd ds) (B : Bls mg) (hc : Cls K C) (na : ∀ f ∈ gfs, NoAttr K C f)
    (c_check_guest : Cal P w K mg base "check_guest" 4 ["width", "floor", "boxes", "marks", "wards", "place"] (sp_check K)) (c_record_of : Cal P w K mg base "record_of" 1 ["marks"] (sp_record K)) :
    FnOk P w K mg base CX0 5 f fd ["self", "width", "floor", "boxes", "marks", "wards", "place"] (sp_ginit K C) := by
  refine F.ok sc_Guest___init__ (fun vs H Q E h => by obtain ⟨_, _, _, _, _, _, _, _, _, _, _, _, rfl, _⟩ := h; rfl) (fun cdv A outer s H vs Q E hr h => ?_)
  obtain ⟨g, dx, w', pf, vb, vm, vw, pl, fl, bx, mk, wd, rfl, hg, ga, k⟩ := h
  refine ⟨_, (pss_cons (ps_expr (pe_callC c_check_guest (hr.mono (by decide)) (pa_cons (pv 1) (pa_cons (pv 2) (pa_cons (pv 3) (pa_cons (pv 4) (pa_cons (pv 5) (pa_cons (pv 6) pa_nil))))))))
      (pss_cons (ps_fldA (pv 0) (pv 1) rfl)
      (pss_cons (ps_fldA (pv 0) (pe_callTy call_listA rfl B.list bb_list (pa_cons (pv 2) pa_nil)) rfl)
      (pss_cons (ps_fldA (pv 0) (pe_ifExp (pt_cmpR op_isN (pv 3) pe_non (nomk _)) (pe_op op_repA (pe_lstA (pa_cons pe_int pa_nil)) pe_int) (pe_callTy call_listA rfl B.list bb_list (pa_cons (pv 3) pa_nil))) rfl)
      (pss_cons (ps_fldA (pv 0) (pe_callC c_record_of (hr.mono (by decide)) (pa_cons (pe_ifExp (pt_cmpR op_isN (pv 4) pe_non (nomk _)) (pe_tupA (pa_cons pe_int (pa_cons pe_int (pa_cons pe_int (pa_cons pe_int pa_nil))))) (pv 4)) pa_nil)) rfl)
      (pss_cons (ps_fldA (pv 0) (pe_ifExp (pt_cmpR op_isN (pv 5) pe_non (nomk _)) (pe_lstA pa_nil) (pe_sortedSet rfl rfl B.sorted B.set rfl (pa_cons (pv 5) pa_nil))) rfl)
      (pss_cons (ps_fldA (pv 0) (pv 6) rfl)
      (pss_cons (ps_fldA (pv 0) (pe_lstA pa_nil) rfl)
      (pss_one (ps_fldA (pv 0) pe_int rfl)))))))))), ?_⟩
  rw [st_Guest___init__]
  walk_at "vz"
  refine ⟨⟨fl, bx, mk, wd, ga⟩, fun H1 s1 => ?_⟩
  have ga1 := ga.same s1
  have g1 := s1 _ _ hg
  refine ⟨C, dx, [], g1, hc, na _ (by walk_at "gi"), by decide, fun H2 w2 => ?_⟩
  have ga2 := ga1.wi w2 g1
  replace w2 : Wrt H1 g (.ins C dx [("width", .int w')]) H2 := w2
  walk_at "vz"
  refine ⟨_, .inl ga2.hf, fun pF H3 n3 => ⟨C, dx, _, n3.same _ _ w2.at', hc, na _ (by walk_at "gi"), by show 1 < 1000; decide, fun H4 w4 => ?_⟩⟩
  replace w4 : Wrt H3 g (.ins C dx [("width", .int w'), ("floor", .ref pF)]) H4 := w4
  have ga4 := (ga2.same n3.same).wi w4 (n3.same _ _ w2.at')
  have nF : pF ≠ g := fun z => by have := n3.nw; rw [z, w2.at'] at this; cases this
  have eF4 : H4 pF = some (.lst (fl.map V.int)) := at_wi w4 nF n3.at'
  refine cutB ga4.hb fun pB H5 s5 f5 e5 => ?_
  walk_at "vz"
  refine ⟨C, dx, _, s5 _ _ w4.at', hc, na _ (by walk_at "gi"), by show 2 < 1000; decide, fun H6 w6 => ?_⟩
  replace w6 : Wrt H5 g (.ins C dx [("width", .int w'), ("floor", .ref pF), ("boxes", .ref pB)]) H6 := w6
  have ga6 := (ga4.same s5).wi w6 (s5 _ _ w4.at')
  have nB : pB ≠ g := fun z => by rw [z, w4.at'] at f5; cases f5
  have nBF : pB ≠ pF := fun z => by rw [z, eF4] at f5; cases f5
  have eF6 := at_wi w6 nF (s5 _ _ eF4)
  have eB6 := at_wi w6 nB e5
  refine cutM ga6.hm ga6.lm fun pR H7 s7 e7 => ?_
  walk_at "vz"
  refine ⟨C, dx, _, s7 _ _ w6.at', hc, na _ (by walk_at "gi"), by show 3 < 1000; decide, fun H8 w8 => ?_⟩
  replace w8 : Wrt H7 g (.ins C dx [("width", .int w'), ("floor", .ref pF), ("boxes", .ref pB), ("record", .ref pR)]) H8 := w8
  have ga8 := (ga6.same s7).wi w8 (s7 _ _ w6.at')
  have nR : pR ≠ g := fun z => by rw [z, s7 _ _ w6.at'] at e7; cases e7
  have eF8 := at_wi w8 nF (s7 _ _ eF6)
  have eB8 := at_wi w8 nB (s7 _ _ eB6)
  have eR8 := at_wi w8 nR e7
  refine cutW ga8.hd ga8.ld fun pW H9 ms s9 f9 e9 pg => ?_
  walk_at "vz"
  refine ⟨C, dx, _, s9 _ _ w8.at', hc, na _ (by walk_at "gi"), by show 4 < 1000; decide, fun H10 w10 => ?_⟩
  replace w10 : Wrt H9 g (.ins C dx [("width", .int w'), ("floor", .ref pF), ("boxes", .ref pB), ("record", .ref pR), ("wards", .ref pW)]) H10 := w10
  have nW : pW ≠ g := fun z => by rw [z, w8.at'] at f9; cases f9
  have nWF : pW ≠ pF := fun z => by rw [z, eF8] at f9; cases f9
  have nWB : pW ≠ pB := fun z => by rw [z, eB8] at f9; cases f9
  have eF10 := at_wi w10 nF (s9 _ _ eF8)
  have eB10 := at_wi w10 nB (s9 _ _ eB8)
  have eR10 := at_wi w10 nR (s9 _ _ eR8)
  have eW10 := at_wi w10 nW e9
  refine ⟨C, dx, _, w10.at', hc, na _ (by walk_at "gi"), by show 5 < 1000; decide, fun H11 w11 => ?_⟩
  replace w11 : Wrt H10 g (.ins C dx [("width", .int w'), ("floor", .ref pF), ("boxes", .ref pB), ("record", .ref pR), ("wards", .ref pW), ("place", .int pl)]) H11 := w11
  walk_at "vz"
  intro pS H12 n12
  refine ⟨C, dx, _, n12.same _ _ w11.at', hc, na _ (by walk_at "gi"), by show 6 < 1000; decide, fun H13 w13 => ?_⟩
  replace w13 : Wrt H12 g (.ins C dx [("width", .int w'), ("floor", .ref pF), ("boxes", .ref pB), ("record", .ref pR), ("wards", .ref pW), ("place", .int pl), ("sent", .ref pS)]) H13 := w13
  refine ⟨C, dx, _, w13.at', hc, na _ (by walk_at "gi"), by show 7 < 1000; decide, fun H14 w14 => ?_⟩
  replace w14 : Wrt H13 g (.ins C dx [("width", .int w'), ("floor", .ref pF), ("boxes", .ref pB), ("record", .ref pR), ("wards", .ref pW), ("place", .int pl), ("sent", .ref pS), ("done", .int 0)]) H14 := w14
  have nS : pS ≠ g := fun z => by have := n12.nw; rw [z, w11.at'] at this; cases this
  have up : ∀ {p u}, p ≠ g → H10 p = some u → H14 p = some u := fun n e => at_wi w14 n (at_wi w13 n (n12.same _ _ (at_wi w11 n e)))
  have nSx : ∀ {p u}, p ≠ g → H10 p = some u → pS ≠ p := fun n e z => by have := n12.nw; rw [z, at_wi w11 n e] at this; cases this
  have x4 : SameX g H H4 := x_tr (x_sm s1) (x_tr (x_wr w2) (x_tr (x_sm n3.same) (x_wr w4)))
  have x6 := x_tr x4 (x_tr (x_sm s5) (x_wr w6))
  have x8 := x_tr x6 (x_tr (x_sm s7) (x_wr w8))
  have x11 := x_tr x8 (x_tr (x_sm s9) (x_tr (x_wr w10) (x_wr w11)))
  walk_at "vz"
  refine k H14 ⟨pF, pB, pR, pW, pS⟩ ms (x_tr x11 (x_tr (x_sm n12.same) (x_tr (x_wr w13) (x_wr w14)))) ⟨⟨dx, w14.at'⟩, up nF eF10, up nB eB10, SqT.of (up nR eR10), up nW eW10, at_wi w14 nS (at_wi w13 nS n12.at'), ?_⟩ pg ?_
  · simp only [List.nodup_cons, List.mem_cons, List.mem_nil_iff, not_or, or_false, not_false_eq_true, List.nodup_nil, and_true]
    exact ⟨⟨nBF.symm, nWF.symm, (nSx nF eF10).symm⟩, ⟨nWB.symm, (nSx nB eB10).symm⟩, (nSx nW eW10).symm⟩
  · intro p hp
    rcases List.mem_cons.mp hp with rfl | hp
    · exact x_free (x_tr (x_sm s1) (x_wr w2)) nF n3.nw
    rcases List.mem_cons.mp hp with rfl | hp
    · exact x_free x4 nB f5
    rcases List.mem_cons.mp hp with rfl | hp
    · exact x_free x8 nW f9
    rcases List.mem_cons.mp hp with rfl | hp
    · exact x_free x11 nS n12.nw
    · cases hp
theorem inV_ints {n : Int} : ∀ {xs : List Int}, inV (.int n) (xs.map V.int) = decide (n ∈ xs)
  | [] => rfl
  | x :: xs => by
    have ih := inV_ints (n := n) (xs := xs)
    have e : inV (.int n) ((x :: xs).map V.int) = ((x == n) || inV (.int n) (xs.map V.int)) := rfl
    rw [e, ih]
    by_cases h : x = n
    · subst h; simp
    · have h' : ¬ n = x := fun z => h z.symm
      simp [h, h']
theorem flat_ints : ∀ {xs : List Int}, (xs.map V.int).all flatV = true
  | [] => rfl
  | _ :: xs => flat_ints (xs := xs)
theorem ok_Guest_stand (F : Fun K "stand" "Guest.stand" s_Guest_stand f fd) (B : Bls mg) (hc : Cls K C) (na : ∀ f ∈ gfs, NoAttr K C f) (c_marks_of : Cal P w K mg base "marks_of" 4 ["width", "record"] (sp_marks_of K)) :
    FnOk P w K mg base CX0 5 f fd ["self"] (sp_stand K C) := by
  refine F.ok sc_Guest_stand (fun vs H Q E h => by match vs, h with | [.ref _], _ => rfl) (fun cdv A outer s H vs Q E hr h => ?_)
  match vs, h with
  | [.ref g], ⟨d, a, gu, hw, k⟩ =>
    refine ⟨_, (pss_cons (ps_set (i := 1) sc_Guest_stand.nd rfl (by first | exact Or.inl rfl | exact Or.inr rfl) (pe_callC c_marks_of (hr.mono (by decide)) (pa_cons (pe_fld (pv 0) rfl) (pa_cons (pe_fld (pv 0) rfl) pa_nil))))
      (pss_one (ps_ret (pe_tupA (pa_cons (pe_callTy call_listA rfl B.list bb_list (pa_cons (pe_fld (pv 0) rfl) pa_nil)) (pa_cons (pv 1) (pa_cons (pe_callTy call_listA rfl B.list bb_list (pa_cons (pe_fld (pv 0) rfl) pa_nil)) (pa_cons (pe_fld (pv 0) rfl) (pa_cons (pe_callTy call_listA rfl B.list bb_list (pa_cons (pe_fld (pv 0) rfl) pa_nil)) (pa_cons (pe_fld (pv 0) rfl) pa_nil)))))))))), ?_⟩
    rw [st_Guest_stand]
    walk_at "vz"
    obtain ⟨dx, eg⟩ := gu.ob
    refine ⟨C, dx, _, _, eg, hc, na _ (by walk_at "gi"), rfl, ?_⟩
    walk_at "vz"
    refine ⟨C, dx, _, _, eg, hc, na _ (by walk_at "gi"), rfl, ?_⟩
    walk_at "vz"
    refine ⟨hw, _, _, _, _, gu.rc, fun m H1 s1 fm em => ?_⟩
    walk_at "vz"
    refine ⟨C, dx, _, _, s1 _ _ eg, hc, na _ (by walk_at "gi"), rfl, ?_⟩
    walk_at "vz"
    refine ⟨_, .inl (SqL.of (s1 _ _ gu.bx)), fun b H2 n2 => ?_⟩
    have s2 := s1.trans n2.same
    refine ⟨C, dx, _, _, s2 _ _ eg, hc, na _ (by walk_at "gi"), rfl, ?_⟩
    walk_at "vz"
    refine ⟨_, .inl (SqL.of (s2 _ _ gu.fl)), fun fA H3 n3 => ?_⟩
    have s3 := s2.trans n3.same
    refine ⟨C, dx, _, _, s3 _ _ eg, hc, na _ (by walk_at "gi"), rfl, ?_⟩
    refine ⟨C, dx, _, _, s3 _ _ eg, hc, na _ (by walk_at "gi"), rfl, ?_⟩
    walk_at "vz"
    refine ⟨_, .inl (SqL.of (s3 _ _ gu.sn)), fun sA H4 n4 => ?_⟩
    have s4 := s3.trans n4.same
    refine ⟨C, dx, _, _, s4 _ _ eg, hc, na _ (by walk_at "gi"), rfl, ?_⟩
    walk_at "vz"
    intro t H5 n5
    have e2 := n2.at'
    have e3 := n3.at'
    have nbf : b ≠ fA := fun z => by have := n3.nw; rw [← z, e2] at this; cases this
    have nbs : b ≠ sA := fun z => by have := n4.nw; rw [← z, n3.same _ _ e2] at this; cases this
    have nfs : fA ≠ sA := fun z => by have := n4.nw; rw [← z, e3] at this; cases this
    refine k H5 t b m fA sA (s4.trans n5.same) n5.at' (n5.same _ _ (n4.same _ _ (n3.same _ _ e2))) (n5.same _ _ (n4.same _ _ (n3.same _ _ (n2.same _ _ em)))) (n5.same _ _ (n4.same _ _ e3)) (n5.same _ _ n4.at') ?_ (s1.free n2.nw) (s2.free n3.nw) (s3.free n4.nw)
    simp [nbf, nbs, nfs]
theorem ok_Guest_is_ward (F : Fun K "is_ward" "Guest.is_ward" s_Guest_is_ward f fd) (hc : Cls K C) (na : ∀ f ∈ gfs, NoAttr K C f) : FnOk P w K mg base CX0 1 f fd ["self", "address"] (sp_ward K C) := by
  refine F.ok sc_Guest_is_ward (fun vs H Q E h => spN_len h) (fun cdv A outer s H vs Q E hr h => ?_)
  obtain ⟨g, _, rfl, h'0⟩ := spN_r h
  obtain ⟨n, _, rfl, h'1⟩ := spN_i h'0
  obtain ⟨rfl, h'n⟩ := spN_nil h'1
  clear h h'0 h'1
  obtain ⟨d, a, gu, k⟩ := h'n
  · skip
    refine ⟨_, (pss_one (ps_ret (pe_cmpR op_in_seq (pe_op op_fdiv (pv 1) pe_int) (pe_fld (pv 0) rfl) (nomk _)))), ?_⟩
    rw [st_Guest_is_ward]
    walk_at "vz"
    obtain ⟨dx, eg⟩ := gu.ob
    refine ⟨C, dx, _, _, eg, hc, na _ (by walk_at "gi"), rfl, ?_⟩
    walk_at "vz"
    exact ⟨_, .inl (SqL.of gu.wd), rfl, flat_ints, qb k inV_ints⟩
theorem ok_Guest_twin (F : Fun K "twin" "Guest.twin" s_Guest_twin f fd) (B : Bls mg) (hc : Cls K C) (na : ∀ f ∈ gfs, NoAttr K C f) (c_Guest : KCal P w K mg base "Guest" C 5 (sp_ginit K C)) :
    FnOk P w K mg base CX0 7 f fd ["self"] (sp_twin K C) := by
  refine F.ok sc_Guest_twin (fun vs H Q E h => spN_len h) (fun cdv A outer s H vs Q E hr h => ?_)
  obtain ⟨g, _, rfl, h'0⟩ := spN_r h
  obtain ⟨rfl, h'n⟩ := spN_nil h'0
  clear h h'0
  obtain ⟨d, a, gu, go, k⟩ := h'n
  · skip
    refine ⟨_, (pss_cons (ps_set (i := 1) sc_Guest_twin.nd rfl (by first | exact Or.inl rfl | exact Or.inr rfl) (pe_makeC c_Guest (hr.mono (by decide)) (pa_cons (pe_fld (pv 0) rfl) (pa_cons (pe_fld (pv 0) rfl) (pa_cons (pe_fld (pv 0) rfl) (pa_cons pe_non (pa_cons (pe_fld (pv 0) rfl) (pa_cons (pe_fld (pv 0) rfl) pa_nil))))))))
      (pss_cons (ps_fldA (pv 1) (pe_fld (pv 0) rfl) rfl)
      (pss_cons (ps_fldA (pv 1) (pe_callTy call_listA rfl B.list bb_list (pa_cons (pe_fld (pv 0) rfl) pa_nil)) rfl)
      (pss_cons (ps_fldA (pv 1) (pe_fld (pv 0) rfl) rfl)
      (pss_one (ps_ret (pv 1))))))), ?_⟩
    rw [st_Guest_twin]
    walk_at "vz"
    obtain ⟨dx, eg⟩ := gu.ob
    refine ⟨C, dx, _, _, eg, hc, na _ (by walk_at "gi"), rfl, ?_⟩
    refine ⟨C, dx, _, _, eg, hc, na _ (by walk_at "gi"), rfl, ?_⟩
    refine ⟨C, dx, _, _, eg, hc, na _ (by walk_at "gi"), rfl, ?_⟩
    refine ⟨C, dx, _, _, eg, hc, na _ (by walk_at "gi"), rfl, ?_⟩
    refine ⟨C, dx, _, _, eg, hc, na _ (by walk_at "gi"), rfl, fun g2 dx2 H2 i2 => ?_⟩
    walk_at "vz"
    have ga : GArg K H2 d.w a.pf (.ref a.pb) .non (.ref a.pw) d.pl d.fl (some d.bx) none (some d.wd) :=
      ⟨go.hw, SqL.of (i2.same _ _ gu.fl), go.lf, go.nf, .ls (SqL.of (i2.same _ _ gu.bx)), fun xs e => by cases e; exact ⟨go.lb, go.nb⟩, .non, (fun xs e => nomatch e), .ls (SqL.of (i2.same _ _ gu.wd)), fun xs e => by cases e; exact ⟨go.lw, go.nw⟩, go.p0, go.p1⟩
    refine ⟨dx2, d.fl, some d.bx, none, some d.wd, i2.at', ga, fun H3 a3 ms x3 gu3 pg3 fr3 => ?_⟩
    walk_at "vz"
    have ng : g ≠ g2 := fun z => by have := i2.nx; rw [← z, eg] at this; cases this
    have s3 : Same H H3 := fun b u e => x3 b u (fun z => by have := i2.nx; rw [← z, e] at this; cases this) (i2.same b u e)
    have gf3 : ∀ p ∈ [a3.pf, a3.pb, a3.pw, a3.ps], H p = none := fun p hp => i2.same.free (fr3 p hp)
    obtain ⟨dx3, eg3⟩ := gu3.ob
    refine ⟨C, dx, _, _, s3 _ _ eg, hc, na _ (by walk_at "gi"), rfl, ?_⟩
    refine ⟨C, dx3, _, eg3, hc, na _ (by walk_at "gi"), by show 8 < 1000; decide, fun H4 w4 => ?_⟩
    replace w4 : Wrt H3 g2 (.ins C dx3 [("width", .int d.w), ("floor", .ref a3.pf), ("boxes", .ref a3.pb), ("record", .ref a.pr), ("wards", .ref a3.pw), ("place", .int d.pl), ("sent", .ref a3.ps), ("done", .int 0)]) H4 := w4
    have eg4 := at_wi w4 ng (s3 _ _ eg)
    refine ⟨C, dx, _, _, eg4, hc, na _ (by walk_at "gi"), rfl, ?_⟩
    walk_at "vz"
    have nsn : a.ps ≠ g2 := fun z => by have := i2.nx; rw [← z, gu.sn] at this; cases this
    refine ⟨_, .inl (SqL.of (at_wi w4 nsn (s3 _ _ gu.sn))), fun pS H5 n5 => ?_⟩
    refine ⟨C, dx3, _, n5.same _ _ w4.at', hc, na _ (by walk_at "gi"), by show 8 < 1000; decide, fun H6 w6 => ?_⟩
    replace w6 : Wrt H5 g2 (.ins C dx3 [("width", .int d.w), ("floor", .ref a3.pf), ("boxes", .ref a3.pb), ("record", .ref a.pr), ("wards", .ref a3.pw), ("place", .int d.pl), ("sent", .ref pS), ("done", .int 0)]) H6 := w6
    have eg6 := at_wi w6 ng (n5.same _ _ eg4)
    refine ⟨C, dx, _, _, eg6, hc, na _ (by walk_at "gi"), rfl, ?_⟩
    refine ⟨C, dx3, _, w6.at', hc, na _ (by walk_at "gi"), by show 8 < 1000; decide, fun H7 w7 => ?_⟩
    replace w7 : Wrt H6 g2 (.ins C dx3 [("width", .int d.w), ("floor", .ref a3.pf), ("boxes", .ref a3.pb), ("record", .ref a.pr), ("wards", .ref a3.pw), ("place", .int d.pl), ("sent", .ref pS), ("done", .int d.dn)]) H7 := w7
    have up : ∀ {p u}, p ≠ g2 → H3 p = some u → H7 p = some u := fun n e => at_wi w7 n (at_wi w6 n (n5.same _ _ (at_wi w4 n e)))
    have nl : ∀ {p : Addr} {xs : List V}, H3 p = some (.lst xs) → p ≠ g2 := fun e z => by rw [z, eg3] at e; cases e
    have nS : pS ≠ g2 := fun z => by have := n5.nw; rw [z, w4.at'] at this; cases this
    have nSx : ∀ {p : Addr} {xs : List V}, H3 p = some (.lst xs) → p ≠ pS := fun e z => by have := n5.nw; rw [← z, at_wi w4 (nl e) e] at this; cases this
    have fS : H pS = none := by
      cases hh : H pS with
      | none => rfl
      | some u =>
        have := n5.nw
        rw [at_wi w4 nS (s3 _ _ hh)] at this
        cases this
    have nd := gu3.nd
    simp only [List.nodup_cons, List.mem_cons, List.mem_nil_iff, not_or, or_false, not_false_eq_true, List.nodup_nil, and_true] at nd
    have s7 : Same H H7 := fun b u e => up (fun z => by have := i2.nx; rw [← z, e] at this; cases this) (s3 b u e)
    walk_at "vz"
    refine k H7 g2 ⟨a3.pf, a3.pb, a.pr, a3.pw, pS⟩ ms s7 ⟨⟨dx3, w7.at'⟩, up (nl gu3.fl) gu3.fl, up (nl gu3.bx) gu3.bx, s7.seqT gu.rc, up (nl gu3.wd) gu3.wd, at_wi w7 nS (at_wi w6 nS n5.at'), ?_⟩ pg3 ?_ i2.nx
    · simp only [List.nodup_cons, List.mem_cons, List.mem_nil_iff, not_or, or_false, not_false_eq_true, List.nodup_nil, and_true]
      exact ⟨⟨nd.1.1, nd.1.2.1, nSx gu3.fl⟩, ⟨nd.2.1.1, nSx gu3.bx⟩, nSx gu3.wd⟩
    · intro p hp
      rcases List.mem_cons.mp hp with rfl | hp
      · exact gf3 _ (by simp)
      rcases List.mem_cons.mp hp with rfl | hp
      · exact gf3 _ (by simp)
      rcases List.mem_cons.mp hp with rfl | hp
      · exact gf3 _ (by simp)
      rcases List.mem_cons.mp hp with rfl | hp
      · exact fS
      · cases hp
end
theorem in_map {m : Int} {xs : List Int} (h : In m xs) {j : Nat} {x : Int} (e : xs[j]? = some x) : 0 ≤ x ∧ x < m := h x (List.mem_of_getElem? e)
theorem in_set {m : Int} {xs : List Int} (h : In m xs) {j : Nat} {x : Int} (h0 : 0 ≤ x) (h1 : x < m) : In m (xs.set j x) := fun y hy => by
  rcases List.mem_or_eq_of_mem_set hy with q | q
  · exact h y q
  · rw [q]; exact ⟨h0, h1⟩
theorem pickP {p : Int → Prop} {xs : List Int} {k : Int} (h : ∀ x ∈ xs, p x) (h0 : 0 ≤ k) (h1 : k < (xs.length : Int)) : ∃ n, atI (xs.map V.int) k = some (.int n) ∧ p n := by
  refine ⟨_, atI_ints h0 h1, h _ ?_⟩
  have hj : k.toNat < xs.length := by omega
  simp [List.getD, hj]
theorem and255 {x : Int} (h : 0 ≤ x) : Builtin.bitAnd x 255 = x % 256 := by
  rw [PyProof.Rows.bitAnd_pp h (by decide)]
  have e : x.toNat &&& (255 : Int).toNat = x.toNat % 256 := Nat.and_two_pow_sub_one_eq_mod x.toNat 8
  rw [e]
  omega
def CodeK (H : Hp) (Q : VK) : Prop := ∀ (p : Addr) (ys : List V) (H' : Hp), Same H H' → H' p = some (.lst ys) → H p = none → (∃ xs : List Int, ys = xs.map V.int ∧ In 256 xs ∧ xs.length ≤ 5) → Q (V.ref p) H'
theorem CodeK.new {H H1 H2 : Hp} {Q : VK} {p : Addr} {ys : List V} (k : CodeK H Q) (s : Same H H1) (n : New H1 p (.lst ys) H2) (h : ∃ xs : List Int, ys = xs.map V.int ∧ In 256 xs ∧ xs.length ≤ 5) : Q (V.ref p) H2 := k p ys H2 (s.trans n.same) n.at' (s.free n.nw) h
local macro_rules | `(tactic| walk_at "lf") => `(tactic| first
  | (refine ite2 (fun h => ?_) (fun h => ?_) <;> walk_at "lf")
  | (intro p' H' n'; walk_at "lf")
  | (refine ⟨_, .inr (SqT.of (New.at' (by assumption))), rfl, rfl, ?_⟩; walk_at "lf")
  | (refine ⟨_, _, by walk_at "sq", by walk_at "sq", by simp, ?_⟩; walk_at "lf")
  | (refine CodeK.new (by assumption) ?_ (by assumption) ?_; walk_at "sq"; walk_at "lf")
  | exact ⟨[_], rfl, by intro x hx; simp only [List.mem_cons, List.mem_nil_iff, or_false] at hx; omega, by simp⟩
  | exact ⟨[_, _], rfl, by intro x hx; simp only [List.mem_cons, List.mem_nil_iff, or_false] at hx; omega, by simp⟩
  | exact ⟨[_, _, _], rfl, by intro x hx; simp only [List.mem_cons, List.mem_nil_iff, or_false] at hx; omega, by simp⟩)
section
variable {P : Program} {w : World} {K : PySem.W.Frag} {mg : Str → Option Value} {base : Heap} {f dS C : Addr} {fd : FuncData}
theorem ok__law_cell_at (F : Fun K "_law_cell_at" "_law_cell_at" s__law_cell_at f fd) (B : Bls mg) : FnOk P w K mg base CX0 1 f fd ["_law_script", "_law_k"] (sp_cell K) := by
  refine F.ok sc__law_cell_at (fun vs H Q E h => spN_len h) (fun cdv A outer s H vs Q E hr h => ?_)
  obtain ⟨a, _, rfl, h'0⟩ := spN_r h
  obtain ⟨i, _, rfl, h'1⟩ := spN_i h'0
  obtain ⟨rfl, h'n⟩ := spN_nil h'1
  clear h h'0 h'1
  obtain ⟨ns, hS, h0, k⟩ := h'n
  · skip
    refine ⟨_, (pss_cons (ps_if (pt_cmpR op_lt (pv 1) (pe_callB call_lenR rfl B.len bb_len (pa_cons (pv 0) pa_nil)) (nomk _)) (pss_one (ps_ret (pe_ix ix_list (pv 0) (pv 1) (fun _ _ => rfl)))) pss_nil)
      (pss_one (ps_ret pe_int))), ?_⟩
    rw [st__law_cell_at]
    walk_at "vz"
    refine ⟨_, .inl hS, ite2 (fun h => ?_) (fun h => ?_)⟩
    · rw [List.length_map] at h
      exact ⟨_, _, hS, atI_ints h0 h, k _⟩
    · exact k _
theorem ok__law_mixed (F : Fun K "_law_mixed" "_law_mixed" s__law_mixed f fd) : FnOk P w K mg base CX0 1 f fd ["_law_cell", "_law_k"] sp_mixed := by
  refine F.ok sc__law_mixed (fun vs H Q E h => spN_len h) (fun cdv A outer s H vs Q E hr h => ?_)
  obtain ⟨c, _, rfl, h'0⟩ := spN_i h
  obtain ⟨i, _, rfl, h'1⟩ := spN_i h'0
  obtain ⟨rfl, h'n⟩ := spN_nil h'1
  clear h h'0 h'1
  obtain ⟨hi, k⟩ := h'n
  · skip
    refine ⟨_, (pss_cons (ps_if (PW.pt (pw_and (pt_cmpR op_ge (pv 0) (pe_op op_shl pe_int pe_int) (nomk _)) (pw_and1 (pt_cmpR op_gt (pe_op op_shr (pv 0) (pe_op op_add pe_int (pe_op op_mul pe_int (pv 1)))) pe_int (nomk _))))) (pss_one (ps_ret (pe_op op_mod (pe_op op_shr (pv 0) (pe_op op_add pe_int (pe_op op_mul pe_int (pv 1)))) pe_int))) pss_nil)
      (pss_cons (ps_set (i := 2) sc__law_mixed.nd rfl (by first | exact Or.inl rfl | exact Or.inr rfl) (pe_op op_mod (pe_op op_mul (pe_op op_add (pe_op op_add (pv 0) (pe_op op_mul pe_int (pv 1))) pe_int) pe_int) pe_int))
      (pss_cons (ps_set (i := 2) sc__law_mixed.nd rfl (by first | exact Or.inl rfl | exact Or.inr rfl) (pe_op op_mod (pe_op op_mul (pv 2) (pe_op op_add (pe_op op_fdiv (pv 2) pe_int) pe_int)) pe_int))
      (pss_one (ps_ret (pe_op op_mod (pe_op op_mul (pv 2) (pe_op op_add (pe_op op_fdiv (pv 2) pe_int) pe_int)) pe_int)))))), ?_⟩
    rw [st__law_mixed]
    walk_at "vz"
    have hx : 0 ≤ (c + 7919 * i + 1) * 48271 % 2147483647 ∧ (c + 7919 * i + 1) * 48271 % 2147483647 < 2147483647 := ⟨by omega, by omega⟩
    generalize (c + 7919 * i + 1) * 48271 % 2147483647 = x at hx ⊢
    have hy : 0 ≤ x * (x / 1009 + 69621) % 2147483647 ∧ x * (x / 1009 + 69621) % 2147483647 < 2147483647 := ⟨Int.emod_nonneg _ (by decide), Int.emod_lt_of_pos _ (by decide)⟩
    generalize x * (x / 1009 + 69621) % 2147483647 = y at hy ⊢
    have hz : 0 ≤ y * (y / 1013 + 16807) % 2147483647 ∧ y * (y / 1013 + 16807) % 2147483647 < 2147483647 := ⟨Int.emod_nonneg _ (by decide), Int.emod_lt_of_pos _ (by decide)⟩
    generalize y * (y / 1013 + 16807) % 2147483647 = z at hz ⊢
    have kz := k z hz.1 (by omega)
    exact ite2 (fun h => ⟨by omega, ite2 (fun h => ⟨by omega, k _ (by omega) (by omega)⟩) (fun h => ⟨.inl (by omega), .inl (by omega), kz⟩)⟩) (fun h => ⟨.inl (by omega), .inl (by omega), kz⟩)
theorem ok__law_number (F : Fun K "_law_number" "_law_number" s__law_number f fd) (c__law_mixed : Cal P w K mg base "_law_mixed" 1 ["_law_cell", "_law_k"] sp_mixed) : FnOk P w K mg base CX0 2 f fd ["_law_width", "_law_cell", "_law_k"] sp_number := by
  refine F.ok sc__law_number (fun vs H Q E h => spN_len h) (fun cdv A outer s H vs Q E hr h => ?_)
  obtain ⟨w', _, rfl, h'0⟩ := spN_i h
  obtain ⟨c, _, rfl, h'1⟩ := spN_i h'0
  obtain ⟨i, _, rfl, h'2⟩ := spN_i h'1
  obtain ⟨rfl, h'n⟩ := spN_nil h'2
  clear h h'0 h'1 h'2
  obtain ⟨hw, hi, k⟩ := h'n
  · skip
    refine ⟨_, (pss_cons (ps_set (i := 3) sc__law_number.nd rfl (by first | exact Or.inl rfl | exact Or.inr rfl) (pe_op op_shl pe_int (pv 0)))
      (pss_cons (ps_if (PW.pt (pw_and (pt_cmpR op_ge (pv 1) (pe_op op_shl pe_int pe_int) (nomk _)) (pw_and (pt_cmpR op_eq (pe_op op_mod (pv 1) pe_int) pe_int (nomk _)) (pw_and1 (pt_cmpR op_gt (pe_op op_shr (pv 1) (pe_op op_add pe_int (pe_op op_mul pe_int (pv 2)))) pe_int (nomk _)))))) (pss_one (ps_ret (pe_op op_mod (pe_op op_shr (pv 1) (pe_op op_add pe_int (pe_op op_mul pe_int (pv 2)))) (pv 3)))) pss_nil)
      (pss_cons (ps_set (i := 4) sc__law_number.nd rfl (by first | exact Or.inl rfl | exact Or.inr rfl) (pe_callC c__law_mixed (hr.mono (by decide)) (pa_cons (pv 1) (pa_cons (pv 2) pa_nil))))
      (pss_cons (ps_set (i := 5) sc__law_number.nd rfl (by first | exact Or.inl rfl | exact Or.inr rfl) (pe_lstA (pa_cons (pe_op op_mod (pe_op op_mul (pv 4) pe_int) (pv 3)) (pa_cons (pe_op op_mod (pe_op op_fdiv (pv 4) pe_int) pe_int) (pa_cons (pe_op op_sub (pe_op op_sub (pv 3) pe_int) (pe_op op_mod (pe_op op_fdiv (pv 4) pe_int) pe_int)) (pa_cons (pe_op op_mod (pe_op op_fdiv (pv 4) pe_int) pe_int) pa_nil))))))
      (pss_one (ps_ret (pe_ix ix_list (pe_op op_catA (pv 5) (pe_lstA (pa_cons (pe_op op_sub (pe_op op_fdiv (pv 3) pe_int) (pe_op op_mod (pe_op op_fdiv (pv 4) pe_int) pe_int)) (pa_cons (pe_op op_mod (pe_op op_fdiv (pv 4) pe_int) (pv 3)) (pa_cons pe_int (pa_cons (pe_op op_mod (pe_op op_fdiv (pv 4) pe_int) pe_int) pa_nil)))))) (pe_op op_mod (pv 4) pe_int) (fun _ _ => rfl)))))))), ?_⟩
    have hp := pw hw
    rw [st__law_number]
    walk_at "vz"
    have t0 := fun z => Int.emod_nonneg z (show (2 : Int) ^ w'.toNat ≠ 0 by omega)
    have t1 := fun z => Int.emod_lt_of_pos z (show (0 : Int) < 2 ^ w'.toNat by omega)
    have h8 : (256 : Int) ≤ 2 ^ w'.toNat := by rcases hw with rfl | rfl | rfl <;> decide
    refine ⟨⟨by omega, by omega⟩, ite2 (fun h => ite2 (fun h => ⟨by omega, ite2 (fun h => ⟨by omega, by omega, k _ _ (t0 _) (t1 _) (Same.refl _)⟩) (fun h => ?_)⟩) (fun h => ?_)) (fun h => ?_)⟩
    all_goals
      refine ⟨hi, fun r r0 r1 => ⟨by omega, fun p H2 n2 => ⟨by omega, fun p' H3 n3 => ⟨_, _, n3.same _ _ n2.at', n3.at', by simp, fun p4 H4 n4 => ?_⟩⟩⟩⟩
      obtain ⟨n, hn, hb⟩ := pickP (p := fun x => 0 ≤ x ∧ x < 2 ^ w'.toNat) (xs := [r * 48271 % 2 ^ w'.toNat, r / 8 % 256, 2 ^ w'.toNat - 1 - r / 8 % 3, r / 8 % 3, 2 ^ w'.toNat / 2 - r / 8 % 2, r / 8 % 2 ^ w'.toNat, 0, r / 8 % 40]) (k := r % 8)
        (fun x hx => by
          simp only [List.mem_cons, List.mem_nil_iff, or_false] at hx
          rcases hx with rfl | rfl | rfl | rfl | rfl | rfl | rfl | rfl
          · exact ⟨t0 _, t1 _⟩
          · omega
          · omega
          · omega
          · omega
          · exact ⟨t0 _, t1 _⟩
          · omega
          · omega) (by omega) (by simp; omega)
      exact ⟨_, _, SqL.of n4.at', hn, k _ _ hb.1 hb.2 (n2.same.trans (n3.same.trans n4.same))⟩
theorem ok__law_code (F : Fun K "_law_code" "_law_code" s__law_code f fd) (B : Bls mg) (c__law_mixed : Cal P w K mg base "_law_mixed" 1 ["_law_cell", "_law_k"] sp_mixed) (c__law_number : Cal P w K mg base "_law_number" 2 ["_law_width", "_law_cell", "_law_k"] sp_number) :
    FnOk P w K mg base CX0 3 f fd ["_law_width", "_law_cell", "_law_k"] sp_code := by
  refine F.ok sc__law_code (fun vs H Q E h => spN_len h) (fun cdv A outer s H vs Q E hr h => ?_)
  obtain ⟨w', _, rfl, h'0⟩ := spN_i h
  obtain ⟨c, _, rfl, h'1⟩ := spN_i h'0
  obtain ⟨i, _, rfl, h'2⟩ := spN_i h'1
  obtain ⟨rfl, h'n⟩ := spN_nil h'2
  clear h h'0 h'1 h'2
  obtain ⟨hw, hi, k⟩ := h'n
  · skip
    refine ⟨_, (pss_cons (ps_set (i := 3) sc__law_code.nd rfl (by first | exact Or.inl rfl | exact Or.inr rfl) (pe_callC c__law_mixed (hr.mono (by decide)) (pa_cons (pv 1) (pa_cons (pv 2) pa_nil))))
      (pss_cons (ps_set (i := 4) sc__law_code.nd rfl (by first | exact Or.inl rfl | exact Or.inr rfl) (pe_ix ix_list (pe_lstA (pa_cons (pe_op op_mod (pe_op op_fdiv (pv 3) pe_int) pe_int) (pa_cons (pe_op op_add pe_int (pe_op op_mod (pe_op op_fdiv (pv 3) pe_int) pe_int)) (pa_cons (pe_op op_add pe_int (pe_op op_mod (pe_op op_fdiv (pv 3) pe_int) pe_int)) (pa_cons (pe_op op_add pe_int (pe_op op_mod (pe_op op_fdiv (pv 3) pe_int) pe_int)) pa_nil))))) (pe_op op_mod (pv 3) pe_int) (fun _ _ => rfl)))
      (pss_cons (ps_set (i := 5) sc__law_code.nd rfl (by first | exact Or.inl rfl | exact Or.inr rfl) (pe_op op_mod (pe_op op_fdiv (pv 3) pe_int) pe_int))
      (pss_cons (ps_set (i := 6) sc__law_code.nd rfl (by first | exact Or.inl rfl | exact Or.inr rfl) (pe_op op_mod (pe_op op_fdiv (pv 3) pe_int) pe_int))
      (pss_cons (ps_set (i := 7) sc__law_code.nd rfl (by first | exact Or.inl rfl | exact Or.inr rfl) (pe_ix ix_list (pe_lstA (pa_cons (pe_op op_mod (pe_op op_fdiv (pv 3) pe_int) pe_int) (pa_cons (pe_op op_mod (pe_op op_fdiv (pv 3) pe_int) pe_int) (pa_cons (pe_op op_sub (pe_op op_sub pe_int pe_int) (pe_op op_mod (pe_op op_fdiv (pv 3) pe_int) pe_int)) pa_nil)))) (pe_op op_mod (pe_op op_fdiv (pv 3) pe_int) pe_int) (fun _ _ => rfl)))
      (pss_cons (ps_if (pt_cmpR op_eq (pv 4) pe_int (nomk _)) (pss_cons (ps_set (i := 8) sc__law_code.nd rfl (by first | exact Or.inl rfl | exact Or.inr rfl) (pe_callC c__law_number (hr.mono (by decide)) (pa_cons (pv 0) (pa_cons (pv 1) (pa_cons (pe_op op_add (pv 2) pe_int) pa_nil)))))
      (pss_one (ps_ret (pe_op op_catA (pe_lstA (pa_cons (pe_op op_add pe_int (pv 5)) pa_nil)) (pe_comp rfl (BlkOk.ofS (tn := ["_law_j"]) (M := ["_law_width", "_law_cell", "_law_k", "_law_number_here", "_law_kind", "_law_low", "_law_other", "_law_leap", "_law_some", "_law_more"]) (N := ["_law_width", "_law_cell", "_law_k", "_law_number_here", "_law_kind", "_law_low", "_law_other", "_law_leap", "_law_some", "_law_more"]) (sc := defScope s__law_code) rfl rfl rfl (by decide +kernel)) (pi_range1 rfl B.range (pa_cons (pe_op op_fdiv (pv 0) pe_int) pa_nil)) (fun _ _ _ _ => (pg_name (i := 0) (show List.Nodup ((["_law_j"] : List Str) ++ (["_law_width", "_law_cell", "_law_k", "_law_number_here", "_law_kind", "_law_low", "_law_other", "_law_leap", "_law_some", "_law_more"] : List Str)) by decide +kernel) rfl (by first | exact Or.inl rfl | exact Or.inr rfl))) (fun _ _ _ _ => pts_nil) (fun _ _ _ _ => (pe_op op_and (pe_op op_shr (pv 9) (pe_op op_mul pe_int (pv 0))) pe_int))))))) pss_nil)
      (pss_cons (ps_if (PW.pt (pw_or (pt_cmpR op_eq (pv 4) pe_int (nomk _)) (pw_or1 (pt_cmpR op_eq (pv 4) pe_int (nomk _))))) (pss_one (ps_set (i := 5) sc__law_code.nd rfl (by first | exact Or.inl rfl | exact Or.inr rfl) pe_int)) pss_nil)
      (pss_cons (ps_set (i := 9) sc__law_code.nd rfl (by first | exact Or.inl rfl | exact Or.inr rfl) (pe_lstA pa_nil))
      (pss_cons (ps_if (PW.pt (pw_or (pt_chain op_le op_le pe_int (pv 4) pe_int) (pw_or1 (pt_cmpR op_in_seq (pv 4) (pe_tupA (pa_cons pe_int (pa_cons pe_int (pa_cons pe_int pa_nil)))) (nomk _))))) (pss_one (ps_set (i := 9) sc__law_code.nd rfl (by first | exact Or.inl rfl | exact Or.inr rfl) (pe_lstA (pa_cons (pv 6) pa_nil)))) pss_nil)
      (pss_cons (ps_if (pt_cmpR op_in_seq (pv 4) (pe_tupA (pa_cons pe_int (pa_cons pe_int (pa_cons pe_int (pa_cons pe_int (pa_cons pe_int (pa_cons pe_int pa_nil))))))) (nomk _)) (pss_one (ps_set (i := 9) sc__law_code.nd rfl (by first | exact Or.inl rfl | exact Or.inr rfl) (pe_op op_catA (pv 9) (pe_lstA (pa_cons (pv 7) pa_nil))))) pss_nil)
      (pss_one (ps_ret (pe_op op_catA (pe_lstA (pa_cons (pe_op op_add (pe_op op_mul pe_int (pv 4)) (pv 5)) pa_nil)) (pv 9)))))))))))))), ?_⟩
    have hp := pw hw
    rw [st__law_code]
    walk_at "vz"
    refine ⟨hi, fun r r0 r1 p1 H1 n1 => ?_⟩
    obtain ⟨kd, hk, k0, k1⟩ := pickP (p := fun x => 0 ≤ x ∧ x ≤ 24) (xs := [r / 8 % 25, 1 + r / 8 % 20, 1 + r / 8 % 24, 3 + r / 8 % 15]) (k := r % 4) (by simp; omega) (by omega) (by simp; omega)
    refine ⟨_, _, SqL.of n1.at', hk, fun p2 H2 n2 => ?_⟩
    obtain ⟨lp, hl, l0, l1⟩ := pickP (p := fun x => 0 ≤ x ∧ x ≤ 255) (xs := [r / 12800 % 256, r / 12800 % 40, 255 - r / 12800 % 40]) (k := r / 4 % 3) (by simp; omega) (by omega) (by simp; omega)
    refine ⟨_, _, SqL.of n2.at', hl, ?_⟩
    walk_at "vz"
    have kV : CodeK H Q := fun p ys H' s' e' f' ⟨xs, ey, ix, lx⟩ => k p xs H' s' (by rw [← ey]; exact e') f' ix lx
    clear k
    refine ite2 (fun h => ?_) (fun h => ?_)
    · refine ⟨hw, by omega, fun v H3 v0 v1 s3 p4 H4 n4 => ⟨by omega, by omega, ?_⟩⟩
      refine compR_range (fun _ y => ∃ n : Int, y = .int n ∧ 0 ≤ n ∧ n < 256) (by rw [sizeLine_eq]; omega) (fun j H5 q hj s5 hq => ?_) (fun us p6 H6 H7 hl' hv s6 n7 => ?_)
      · walk_at "vz"
        have hv : 0 ≤ v / 2 ^ (8 * (0 + (j : Int))).toNat := Int.ediv_nonneg v0 (Int.le_of_lt (Int.pow_pos (by decide)))
        rw [and255 hv]
        exact ⟨by omega, hq _ _ (Same.refl _) ⟨_, rfl, by omega, by omega⟩⟩
      · walk_at "vz"
        obtain ⟨ms, rfl, lm, bm⟩ := list_ints (R := fun _ n => 0 ≤ n ∧ n < 256) hl' (fun j v hv' => hv j v hv')
        refine ⟨_, _, by walk_at "sq", n7.at', by rw [List.length_map, lm]; simp; omega, fun p8 H8 n8 => kV.new (by walk_at "sq") n8 ⟨(8 + r / 200 % 8) :: ms, rfl, fun x hx => ?_, by rw [List.length_cons, lm]; omega⟩⟩
        rcases List.mem_cons.mp hx with z | z
        · omega
        · obtain ⟨j, hj⟩ := List.getElem?_of_mem z
          exact bm j x hj
    · walk_at "lf"
end
section
variable {P : Program} {w : World} {K : PySem.W.Frag} {mg : Str → Option Value} {base : Heap} {f dS C : Addr} {fd : FuncData}
theorem ok__law_floor (F : Fun K "_law_floor" "_law_floor" s__law_floor f fd) (B : Bls mg) (c__law_cell_at : Cal P w K mg base "_law_cell_at" 1 ["_law_script", "_law_k"] (sp_cell K)) (c__law_mixed : Cal P w K mg base "_law_mixed" 1 ["_law_cell", "_law_k"] sp_mixed)
    (c__law_code : Cal P w K mg base "_law_code" 3 ["_law_width", "_law_cell", "_law_k"] sp_code) : FnOk P w K mg base CX0 4 f fd ["_law_script", "_law_width"] (sp_lfloor K) := by
  refine F.ok sc__law_floor (fun vs H Q E h => spN_len h) (fun cdv A outer s H vs Q E hr h => ?_)
  obtain ⟨a, _, rfl, h'0⟩ := spN_r h
  obtain ⟨w', _, rfl, h'1⟩ := spN_i h'0
  obtain ⟨rfl, h'n⟩ := spN_nil h'1
  clear h h'0 h'1
  obtain ⟨hw, ns, hS, k⟩ := h'n
  · skip
    refine ⟨_, (pss_cons (ps_set (i := 2) sc__law_floor.nd rfl (by first | exact Or.inl rfl | exact Or.inr rfl) (pe_callC c__law_cell_at (hr.mono (by decide)) (pa_cons (pv 0) (pa_cons pe_int pa_nil))))
      (pss_cons (ps_set (i := 3) sc__law_floor.nd rfl (by first | exact Or.inl rfl | exact Or.inr rfl) (pe_ix ix_list (pe_lstA (pa_cons pe_int (pa_cons pe_int (pa_cons pe_int (pa_cons pe_int pa_nil))))) (pe_op op_mod (pv 2) pe_int) (fun _ _ => rfl)))
      (pss_cons (ps_setC (i := 4) sc__law_floor.nd rfl rfl rfl (BlkOk.ofS (tn := ["_law_k"]) (M := ["_law_script", "_law_width", "_law_cell", "_law_bound", "_law_floor_here", "_law_begin", "_law_at", "#7", "_law_byte"]) (N := ["_law_script", "_law_width", "_law_cell", "_law_bound", "_law_floor_here", "_law_begin", "_law_at", "_law_k", "_law_byte"]) (sc := defScope s__law_floor) rfl rfl rfl (by decide +kernel)) (pi_range1 rfl B.range (pa_cons pe_int pa_nil)) (fun _ _ _ _ => (pg_name (i := 0) (show List.Nodup ((["_law_k"] : List Str) ++ (["_law_script", "_law_width", "_law_cell", "_law_bound", "_law_floor_here", "_law_begin", "_law_at", "#7", "_law_byte"] : List Str)) by decide +kernel) rfl (by first | exact Or.inl rfl | exact Or.inr rfl))) (fun _ _ _ _ => pts_nil) (fun _ _ _ _ => (pe_op op_mod (pe_callC c__law_mixed (hr.mono (by decide)) (pa_cons (pv 3) (pa_cons (pv 0) pa_nil))) (pv 4))))
      (pss_cons (ps_set (i := 5) sc__law_floor.nd rfl (by first | exact Or.inl rfl | exact Or.inr rfl) (pe_op op_mod (pe_callC c__law_mixed (hr.mono (by decide)) (pa_cons (pe_callC c__law_cell_at (hr.mono (by decide)) (pa_cons (pv 0) (pa_cons pe_int pa_nil))) (pa_cons pe_int pa_nil))) pe_int))
      (pss_cons (ps_set (i := 6) sc__law_floor.nd rfl (by first | exact Or.inl rfl | exact Or.inr rfl) (pv 5))
      (pss_cons (ps_for PassesOwn.never rfl (pi_range1 rfl B.range (pa_cons (pe_ix ix_list (pe_lstA (pa_cons pe_int (pa_cons pe_int pa_nil))) (pe_callTy call_int1R rfl B.int bb_int (pa_cons (pe_cmpR op_eq (pe_op op_mod (pe_op op_fdiv (pv 2) pe_int) pe_int) pe_int (nomk _)) pa_nil)) (fun _ _ => rfl)) pa_nil)) (pg_name (i := 7) sc__law_floor.nd rfl (by first | exact Or.inl rfl | exact Or.inr rfl)) (pss_one (ps_for PassesOwn.never rfl (pi_list (pe_callC c__law_code (hr.mono (by decide)) (pa_cons (pv 1) (pa_cons (pe_callC c__law_cell_at (hr.mono (by decide)) (pa_cons (pv 0) (pa_cons (pe_op op_add pe_int (pv 7)) pa_nil))) (pa_cons (pv 7) pa_nil))))) (pg_name (i := 8) sc__law_floor.nd rfl (by first | exact Or.inl rfl | exact Or.inr rfl)) (pss_cons (ps_asg (pv 8) (pg_sub (pv 4) (pe_op op_mod (pv 6) pe_int) set_listA))
      (pss_one (ps_set (i := 6) sc__law_floor.nd rfl (by first | exact Or.inl rfl | exact Or.inr rfl) (pe_op op_add (pv 6) pe_int)))))))
      (pss_one (ps_ret (pe_tupA (pa_cons (pv 4) (pa_cons (pv 5) pa_nil))))))))))), ?_⟩
    rw [st__law_floor]
    walk_at "vz"
    refine ⟨ns, hS, fun c p1 H1 n1 => ?_⟩
    obtain ⟨bd, hb, b0, b1⟩ := pickP (p := fun x => 1 ≤ x ∧ x ≤ 256) (xs := [1, 256, 200, 8]) (k := c % 4) (by simp) (by omega) (by simp; omega)
    refine ⟨_, _, SqL.of n1.at', hb, ?_⟩
    refine compR_range (fun _ y => ∃ n : Int, y = .int n ∧ 0 ≤ n ∧ n < 256) (by rw [sizeLine_eq]; omega) (fun j H2 q hj s2 hq => ?_) (fun us p3 H3 H4 hl hv s3 n4 => ?_)
    · walk_at "vz"
      have t0 := fun z => Int.emod_nonneg z (show bd ≠ 0 by omega)
      have t1 := fun z => Int.emod_lt_of_pos z (show 0 < bd by omega)
      exact ⟨by omega, fun r r0 r1 => ⟨by omega, hq _ _ (Same.refl _) ⟨_, rfl, t0 _, by have := t1 r; omega⟩⟩⟩
    obtain ⟨fl4, rfl, l4, bf⟩ := list_ints (R := fun _ n => 0 ≤ n ∧ n < 256) hl (fun j v hv' => hv j v hv')
    have i4 : In 256 fl4 := fun x hx => by
      obtain ⟨j, hj⟩ := List.getElem?_of_mem hx
      exact bf j x hj
    clear hv hl bf
    have s4 : Same H H4 := n1.same.trans (s3.trans n4.same)
    have f3 : H p3 = none := (n1.same.trans s3).free n4.nw
    walk_at "vz"
    refine ⟨ns, s4.seq hS, fun c2 r2 r20 r21 p5 H5 n5 => ?_⟩
    obtain ⟨m, hm, m0, m1⟩ := pickP (p := fun x => 0 ≤ x ∧ x ≤ 40) (xs := [40, 0]) (k := if c / 4 % 4 = 3 then 1 else 0) (by simp) (by split <;> omega) (by split <;> simp)
    refine ⟨_, _, SqL.of n5.at', hm, ?_⟩
    walk_at "vz"
    refine ⟨by omega, by omega, ?_⟩
    refine for_range (fun i σ H' => ∃ (v7 v8 : Option V) (at' : Int) (fl : List Int), σ = [some (.ref a), some (.int w'), some (.int c), some (.int bd), some (.ref p3), some (.int (r2 % 256)), some (.int at'), v7, v8] ∧ Same H H' ∧ H' p3 = some (.lst (fl.map V.int)) ∧ fl.length = 256 ∧ In 256 fl ∧ 0 ≤ at')
      ⟨none, none, _, fl4, rfl, s4.trans n5.same, n5.same _ _ n4.at', l4, i4, by omega⟩ ?_ ?_
    · rintro i σ H6 hi ⟨v7, v8, at', fl, rfl, s6, e6, l6, i6, a6⟩
      walk_at "vz"
      refine ⟨ns, s6.seq hS, by omega, fun r => ⟨hw, by omega, fun p7 xs H7 s7 e7 f7 i7 l7 => ⟨⟨_, SqL.of e7⟩, ?_⟩⟩⟩
      have ne : p7 ≠ p3 := fun z => by rw [z, e6] at f7; cases f7
      refine for_list (K := K) (a := p7) (xs := xs.map V.int) (fun j σ H' => ∃ (v8 : Option V) (at' : Int) (fl : List Int), σ = [some (.ref a), some (.int w'), some (.int c), some (.int bd), some (.ref p3), some (.int (r2 % 256)), some (.int at'), some (.int (0 + (i : Int))), v8] ∧ Same H H' ∧ H' p3 = some (.lst (fl.map V.int)) ∧ fl.length = 256 ∧ In 256 fl ∧ 0 ≤ at' ∧ H' p7 = some (.lst (xs.map V.int)))
        ⟨v8, at', fl, rfl, s6.trans s7, s7 _ _ e6, l6, i6, a6, e7⟩ (fun j σ H' _ h => by obtain ⟨_, _, _, _, _, _, _, _, _, z⟩ := h; exact SqL.of z) ?_ ?_
      · rintro j x σ H8 hx ⟨v8, at', fl, rfl, s8, e8, l8, i8, a8, c8⟩
        obtain ⟨b, hb, rfl⟩ := item_int hx
        have bb := i7 b (List.mem_of_getElem? hb)
        walk_at "vz"
        refine ⟨_, (at' % 256).toNat, e8, by unfold ixN; rw [if_pos (by omega), List.length_map, if_pos (by omega)], fun H9 w9 => ?_⟩
        refine ⟨_, _, fl.set (at' % 256).toNat b, rfl, w9.same s8 f3, by rw [w9.at', List.map_set], by rw [List.length_set]; exact l8, in_set i8 bb.1 bb.2, by omega, ?_⟩
        rw [w9.els p7 ne]; exact c8
      · rintro σ H8 ⟨v8, at', fl, rfl, s8, e8, l8, i8, a8, c8⟩
        walk_at "vz"
        exact ⟨_, _, at', fl, rfl, s8, e8, l8, i8, a8⟩
    · rintro σ H6 ⟨v7, v8, at', fl, rfl, s6, e6, l6, i6, a6⟩
      walk_at "vz"
      intro t H7 n7
      exact k t p3 fl (r2 % 256) H7 (s6.trans n7.same) n7.at' (n7.same _ _ e6) f3 l6 i6 (by omega) (by omega)
theorem ok__law_case (F : Fun K "_law_case" "_law_case" s__law_case f fd) (B : Bls mg) (c__law_cell_at : Cal P w K mg base "_law_cell_at" 1 ["_law_script", "_law_k"] (sp_cell K)) (c__law_mixed : Cal P w K mg base "_law_mixed" 1 ["_law_cell", "_law_k"] sp_mixed)
    (c__law_number : Cal P w K mg base "_law_number" 2 ["_law_width", "_law_cell", "_law_k"] sp_number) (c__law_floor : Cal P w K mg base "_law_floor" 4 ["_law_script", "_law_width"] (sp_lfloor K)) : FnOk P w K mg base CX0 5 f fd ["_law_script"] (sp_case K) := by
  refine F.ok sc__law_case (fun vs H Q E h => spN_len h) (fun cdv A outer s H vs Q E hr h => ?_)
  obtain ⟨a, _, rfl, h'0⟩ := spN_r h
  obtain ⟨rfl, h'n⟩ := spN_nil h'0
  clear h h'0
  obtain ⟨ns, hS, k⟩ := h'n
  · skip
    refine ⟨_, (pss_cons (ps_set (i := 1) sc__law_case.nd rfl (by first | exact Or.inl rfl | exact Or.inr rfl) (pe_callC c__law_cell_at (hr.mono (by decide)) (pa_cons (pv 0) (pa_cons pe_int pa_nil))))
      (pss_cons (ps_set (i := 2) sc__law_case.nd rfl (by first | exact Or.inl rfl | exact Or.inr rfl) (pe_ix ix_list (pe_lstA (pa_cons pe_int (pa_cons pe_int (pa_cons pe_int pa_nil)))) (pe_op op_mod (pv 1) pe_int) (fun _ _ => rfl)))
      (pss_cons (ps_setC (i := 3) sc__law_case.nd rfl rfl rfl (BlkOk.ofS (tn := ["_law_k"]) (M := ["_law_script", "_law_first", "_law_width", "_law_boxes", "_law_marks", "_law_several", "_law_pages", "_law_floor_here", "_law_begin"]) (N := ["_law_script", "_law_first", "_law_width", "_law_boxes", "_law_marks", "_law_several", "_law_pages", "_law_floor_here", "_law_begin"]) (sc := defScope s__law_case) rfl rfl rfl (by decide +kernel)) (pi_range1 rfl B.range (pa_cons pe_int pa_nil)) (fun _ _ _ _ => (pg_name (i := 0) (show List.Nodup ((["_law_k"] : List Str) ++ (["_law_script", "_law_first", "_law_width", "_law_boxes", "_law_marks", "_law_several", "_law_pages", "_law_floor_here", "_law_begin"] : List Str)) by decide +kernel) rfl (by first | exact Or.inl rfl | exact Or.inr rfl))) (fun _ _ _ _ => pts_nil) (fun _ _ _ _ => (pe_callC c__law_number (hr.mono (by decide)) (pa_cons (pv 3) (pa_cons (pe_callC c__law_cell_at (hr.mono (by decide)) (pa_cons (pv 1) (pa_cons pe_int pa_nil))) (pa_cons (pv 0) pa_nil))))))
      (pss_cons (ps_set (i := 4) sc__law_case.nd rfl (by first | exact Or.inl rfl | exact Or.inr rfl) (pe_callTy call_tuple_of rfl B.tuple bb_tuple (pa_cons (pe_comp rfl (BlkOk.ofS (tn := ["_law_k"]) (M := ["_law_script", "_law_first", "_law_width", "_law_boxes", "_law_marks", "_law_several", "_law_pages", "_law_floor_here", "_law_begin"]) (N := ["_law_script", "_law_first", "_law_width", "_law_boxes", "_law_marks", "_law_several", "_law_pages", "_law_floor_here", "_law_begin"]) (sc := defScope s__law_case) rfl rfl rfl (by decide +kernel)) (pi_range1 rfl B.range (pa_cons pe_int pa_nil)) (fun _ _ _ _ => (pg_name (i := 0) (show List.Nodup ((["_law_k"] : List Str) ++ (["_law_script", "_law_first", "_law_width", "_law_boxes", "_law_marks", "_law_several", "_law_pages", "_law_floor_here", "_law_begin"] : List Str)) by decide +kernel) rfl (by first | exact Or.inl rfl | exact Or.inr rfl))) (fun _ _ _ _ => pts_nil) (fun _ _ _ _ => (pe_op op_mod (pe_op op_fdivP (pv 2) (pe_op op_add pe_int (pe_op op_mul pe_int (pv 0)))) pe_int))) pa_nil)))
      (pss_cons (ps_set (i := 5) sc__law_case.nd rfl (by first | exact Or.inl rfl | exact Or.inr rfl) (pe_ix ix_list (pe_lstA (pa_cons (pe_op op_mod (pe_op op_fdiv (pv 1) pe_int) pe_int) (pa_cons (pe_op op_mod (pe_op op_fdiv (pv 1) pe_int) pe_int) pa_nil))) (pe_callTy call_int1R rfl B.int bb_int (pa_cons (pe_cmpR op_eq (pe_op op_mod (pe_op op_fdiv (pv 1) pe_int) pe_int) pe_int (nomk _)) pa_nil)) (fun _ _ => rfl)))
      (pss_cons (ps_setC (i := 6) sc__law_case.nd rfl rfl rfl (BlkOk.ofS (tn := ["_law_k"]) (M := ["_law_script", "_law_first", "_law_width", "_law_boxes", "_law_marks", "_law_several", "_law_pages", "_law_floor_here", "_law_begin"]) (N := ["_law_script", "_law_first", "_law_width", "_law_boxes", "_law_marks", "_law_several", "_law_pages", "_law_floor_here", "_law_begin"]) (sc := defScope s__law_case) rfl rfl rfl (by decide +kernel)) (pi_range1 rfl B.range (pa_cons (pv 5) pa_nil)) (fun _ _ _ _ => (pg_name (i := 0) (show List.Nodup ((["_law_k"] : List Str) ++ (["_law_script", "_law_first", "_law_width", "_law_boxes", "_law_marks", "_law_several", "_law_pages", "_law_floor_here", "_law_begin"] : List Str)) by decide +kernel) rfl (by first | exact Or.inl rfl | exact Or.inr rfl))) (fun _ _ _ _ => pts_nil) (fun _ _ _ _ => (pe_op op_mod (pe_callC c__law_mixed (hr.mono (by decide)) (pa_cons (pv 2) (pa_cons (pv 0) pa_nil))) pe_int)))
      (pss_cons (ps_asg (pe_callC c__law_floor (hr.mono (by decide)) (pa_cons (pv 0) (pa_cons (pv 2) pa_nil))) (pg_tup (n := 2) rfl (pgs_cons (pg_name (i := 7) sc__law_case.nd rfl (by first | exact Or.inl rfl | exact Or.inr rfl)) (pgs_cons (pg_name (i := 8) sc__law_case.nd rfl (by first | exact Or.inl rfl | exact Or.inr rfl)) pgs_nil))))
      (pss_one (ps_ret (pe_tupA (pa_cons (pv 2) (pa_cons (pv 7) (pa_cons (pv 3) (pa_cons (pv 4) (pa_cons (pv 6) (pa_cons (pv 8) pa_nil)))))))))))))))), ?_⟩
    rw [st__law_case]
    walk_at "vz"
    refine ⟨ns, hS, fun c p1 H1 n1 => ?_⟩
    obtain ⟨wd, hw, hat⟩ := pick3 c
    have hp := pw hw
    refine ⟨_, _, SqL.of n1.at', hat, ?_⟩
    refine compR_range (fun _ y => ∃ n : Int, y = .int n ∧ 0 ≤ n ∧ n < M wd) (by rw [sizeLine_eq]; omega) (fun j H2 q hj s2 hq => ?_) (fun us p3 H3 H4 hl hv s3 n4 => ?_)
    · walk_at "vz"
      exact ⟨ns, (n1.same.trans s2).seq hS, fun r => ⟨hw, by omega, fun v H' v0 v1 s' => hq _ _ s' ⟨_, rfl, v0, v1⟩⟩⟩
    obtain ⟨bx, rfl, lb, bf⟩ := list_ints (R := fun _ n => 0 ≤ n ∧ n < M wd) hl (fun j v hv' => hv j v hv')
    have ib : In (M wd) bx := fun x hx => by
      obtain ⟨j, hj⟩ := List.getElem?_of_mem hx
      exact bf j x hj
    clear hv hl bf
    have s4 : Same H H4 := n1.same.trans (s3.trans n4.same)
    refine compR_range (fun _ y => ∃ n : Int, y = .int n ∧ 0 ≤ n ∧ n < 2) (by rw [sizeLine_eq]; omega) (fun j H5 q hj s5 hq => ?_) (fun us p6 H6 H7 hl hv s6 n7 => ?_)
    · walk_at "vz"
      exact ⟨⟨by omega, by omega⟩, hq _ _ (Same.refl _) ⟨_, rfl, by omega, by omega⟩⟩
    obtain ⟨mk, rfl, lm, bf⟩ := list_ints (R := fun _ n => 0 ≤ n ∧ n < 2) hl (fun j v hv' => hv j v hv')
    have im : In 2 mk := fun x hx => by
      obtain ⟨j, hj⟩ := List.getElem?_of_mem hx
      exact bf j x hj
    clear hv hl bf
    have s7 : Same H4 H7 := s6.trans n7.same
    walk_at "vz"
    refine ⟨p6, _, rfl, .inl ⟨SqL.of n7.at', fun pm fm p8 H8 n8 => ?_⟩⟩
    have n7' := New.of (o := .tup (mk.map V.int)) fm
    obtain ⟨sv, hs, v0, v1⟩ := pickP (p := fun x => 0 ≤ x ∧ x ≤ 19) (xs := [c / 48 % 4, c / 768 % 20]) (k := if c / 192 % 4 = 3 then 1 else 0) (by simp; omega) (by split <;> omega) (by split <;> simp)
    refine ⟨_, _, SqL.of n8.at', hs, ?_⟩
    walk_at "vz"
    refine ⟨by omega, by omega, ?_⟩
    refine compR_range (fun _ y => ∃ n : Int, y = .int n ∧ 0 ≤ n ∧ n < 16) (by rw [sizeLine_eq]; omega) (fun j H9 q hj s9 hq => ?_) (fun us p10 H10 H11 hl hv s10 n11 => ?_)
    · walk_at "vz"
      exact ⟨by omega, fun r r0 r1 => hq _ _ (Same.refl _) ⟨_, rfl, by omega, by omega⟩⟩
    obtain ⟨pg, rfl, lg, bf⟩ := list_ints (R := fun _ n => 0 ≤ n ∧ n < 16) hl (fun j v hv' => hv j v hv')
    have ig : In 16 pg := fun x hx => by
      obtain ⟨j, hj⟩ := List.getElem?_of_mem hx
      exact bf j x hj
    clear hv hl bf
    have s11 : Same H4 H11 := s7.trans (n7'.same.trans (n8.same.trans (s10.trans n11.same)))
    walk_at "vz"
    refine ⟨hw, ns, (s4.trans s11).seq hS, fun t pf fl b H12 s12 et ef ff lf nf b0 b1 => ?_⟩
    walk_at "vz"
    refine ⟨_, SqT.of et, rfl, ?_⟩
    walk_at "vz"
    intro t2 H13 n13
    have s13 := s12.trans n13.same
    have e11 := s11 _ _ n4.at'
    have n1f : pf ≠ p3 := fun z => by rw [z, e11] at ff; cases ff
    have n2f : pf ≠ p10 := fun z => by rw [z, n11.at'] at ff; cases ff
    have n3f : p3 ≠ p10 := fun z => by
      have := n11.nw
      rw [← z, (s7.trans (n7'.same.trans (n8.same.trans s10))) _ _ n4.at'] at this
      cases this
    refine k t2 ⟨wd, fl, bx, mk, pg, b⟩ ⟨pf, p3, pm, p10⟩ H13 (s4.trans (s11.trans s13)) n13.at' ⟨n13.same _ _ ef, s13 _ _ e11, SqT.of (s13 _ _ ((n8.same.trans (s10.trans n11.same)) _ _ n7'.at')), s13 _ _ n11.at', ?_⟩ ⟨hw, lf, nf, lb, ib, lm, im, by show pg.length ≤ 40; omega, ig, b0, b1⟩ (by show pg.length ≤ 20; omega)
    simp [n1f, n2f, n3f]
end
section
variable {P : Program} {w : World} {K : PySem.W.Frag} {mg : Str → Option Value} {base : Heap} {f dS C : Addr} {fd : FuncData}
abbrev gKey (vs zs : List V) : List V := match vs, zs with
  | [x, w, f], [p, q] => [x, w, f, .non, .non, q, p]
  | _, _ => []
theorem madeK {H H2 : Hp} {g dx : Addr} {c : Cs} {x : CsA} {y pv : Int} {vb vm vw : V} {bo mo wo : Option (List Int)} {Q : VK} (co : CsOk c) (ca : CsAt K H c x) (i2 : NewI H g dx C H2)
    (k : ∀ (H' : Hp) (g : Addr) (a : GA) (wd : List Int), Same H H' → Gu K H' C g (GD.made c.w c.fl (wayB c y) (wayM c y) wd (wayP c y)) a → Pgs wd ((wayW c y).getD []) → (∀ p ∈ [a.pf, a.pb, a.pw, a.ps], H p = none) → H g = none → Q (.ref g) H')
    (eb : wayB c y = bo) (em : wayM c y = mo) (ew : wayW c y = wo) (ep : wayP c y = pv) (hb : OL K H2 vb bo) (hm : OT K H2 vm mo) (hd : OL K H2 vw wo) (p0 : 0 ≤ pv) (p1 : pv ≤ 255)
    (lb : ∀ xs, bo = some xs → xs.length = 8 ∧ In (M c.w) xs) (lm : ∀ xs, mo = some xs → xs.length = 4 ∧ In 2 xs) (ld : ∀ xs, wo = some xs → xs.length ≤ 60 ∧ In 16 xs) :
    ∃ dx fl bx mk wd, H2 g = some (.ins C dx []) ∧ GArg K H2 c.w x.pf vb vm vw pv fl bx mk wd ∧ ∀ (H' : Hp) (a : GA) (wd' : List Int), SameX g H2 H' → Gu K H' C g (GD.made c.w fl bx mk wd' pv) a → Pgs wd' (wd.getD []) → (∀ p ∈ [a.pf, a.pb, a.pw, a.ps], H2 p = none) → Q (.ref g) H' := by
  refine ⟨dx, c.fl, bo, mo, wo, i2.at', ⟨co.hw, SqL.of (i2.same _ _ ca.fl), co.lf, co.nf, hb, lb, hm, lm, hd, ld, p0, p1⟩, fun H' a wd' x3 gu pg fr => ?_⟩
  subst eb em ew ep
  refine k H' g a wd' (fun b u e => x3 b u (fun z => ?_) (i2.same b u e)) gu pg (fun p hp => i2.same.free (fr p hp)) i2.nx
  have := i2.nx
  rw [← z, e] at this
  cases this
theorem madeS {H H2 : Hp} {g : Addr} {w pv : Int} {pf : Addr} {vb vm vw : V} {Q : VK} (h : ∃ dx fl bx mk wd, H2 g = some (.ins C dx []) ∧ GArg K H2 w pf vb vm vw pv fl bx mk wd ∧ ∀ (H' : Hp) (a : GA) (wd' : List Int), SameX g H2 H' → Gu K H' C g (GD.made w fl bx mk wd' pv) a → Pgs wd' (wd.getD []) → (∀ p ∈ [a.pf, a.pb, a.pw, a.ps], H2 p = none) → Q (.ref g) H') :
    sp_ginit K C [.ref g, .int w, .ref pf, vb, vm, vw, .int pv] H2 (fun v H3 => v = V.non ∧ Q (V.ref g) H3) E0 := by
  obtain ⟨dx, fl, bx, mk, wd, a1, a2, a3⟩ := h
  rw [rd_ginit]
  exact ⟨dx, fl, bx, mk, wd, a1, a2, fun H' a wd' x gu pg fr => ⟨rfl, a3 H' a wd' x gu pg fr⟩⟩
theorem ok__law_made (F : Fun K "_law_made" "_law_made" s__law_made f fd) (B : Bls mg) (c_Guest : KCal P w K mg base "Guest" C 5 (sp_ginit K C)) (d4_Guest : KCalD P w K mg base "Guest" C 5 (sp_ginit K C) [.non, .non, .non, .int 0]) (d3_Guest : KCalD P w K mg base "Guest" C 5 (sp_ginit K C) [.non, .non, .int 0])
    (d2_Guest : KCalD P w K mg base "Guest" C 5 (sp_ginit K C) [.non, .int 0]) (k_Guest : KCalK P w K mg base "Guest" C 5 (sp_ginit K C) ["place", "wards"] gKey) : FnOk P w K mg base CX0 7 f fd ["_law_case_here", "_law_way"] (sp_made K C) := by
  refine F.ok sc__law_made (fun vs H Q E h => spN_len h) (fun cdv A outer s H vs Q E hr h => ?_)
  obtain ⟨h, _, rfl, h'0⟩ := spN_r h
  obtain ⟨y, _, rfl, h'1⟩ := spN_i h'0
  obtain ⟨rfl, h'n⟩ := spN_nil h'1
  clear h h'0 h'1
  obtain ⟨c, x, eh, ca, co, y0, y1, k⟩ := h'n
  · skip
    refine ⟨_, (pss_cons (ps_asg (pv 0) (pg_lst (n := 6) rfl (pgs_cons (pg_name (i := 2) sc__law_made.nd rfl (by first | exact Or.inl rfl | exact Or.inr rfl)) (pgs_cons (pg_name (i := 3) sc__law_made.nd rfl (by first | exact Or.inl rfl | exact Or.inr rfl)) (pgs_cons (pg_name (i := 4) sc__law_made.nd rfl (by first | exact Or.inl rfl | exact Or.inr rfl)) (pgs_cons (pg_name (i := 5) sc__law_made.nd rfl (by first | exact Or.inl rfl | exact Or.inr rfl)) (pgs_cons (pg_name (i := 6) sc__law_made.nd rfl (by first | exact Or.inl rfl | exact Or.inr rfl)) (pgs_cons (pg_name (i := 7) sc__law_made.nd rfl (by first | exact Or.inl rfl | exact Or.inr rfl)) pgs_nil))))))))
      (pss_cons (ps_if (pt_cmpR op_eq (pv 1) pe_int (nomk _)) (pss_one (ps_ret (pe_makeD d4_Guest (hr.mono (by decide)) (pa_cons (pv 2) (pa_cons (pv 3) pa_nil))))) pss_nil)
      (pss_cons (ps_if (pt_cmpR op_eq (pv 1) pe_int (nomk _)) (pss_one (ps_ret (pe_makeD d3_Guest (hr.mono (by decide)) (pa_cons (pv 2) (pa_cons (pv 3) (pa_cons (pv 4) pa_nil)))))) pss_nil)
      (pss_cons (ps_if (pt_cmpR op_eq (pv 1) pe_int (nomk _)) (pss_one (ps_ret (pe_makeD d2_Guest (hr.mono (by decide)) (pa_cons (pv 2) (pa_cons (pv 3) (pa_cons pe_non (pa_cons (pv 5) pa_nil))))))) pss_nil)
      (pss_cons (ps_if (pt_cmpR op_eq (pv 1) pe_int (nomk _)) (pss_one (ps_ret (pe_makeK k_Guest (hr.mono (by decide)) (pa_cons (pv 2) (pa_cons (pv 3) pa_nil)) (pk_cons (pv 7) (pk_cons (pv 6) pk_nil))))) pss_nil)
      (pss_cons (ps_if (pt_cmpR op_eq (pv 1) pe_int (nomk _)) (pss_one (ps_ret (pe_makeC c_Guest (hr.mono (by decide)) (pa_cons (pv 2) (pa_cons (pv 3) (pa_cons (pv 4) (pa_cons pe_non (pa_cons pe_non (pa_cons (pv 7) pa_nil))))))))) pss_nil)
      (pss_one (ps_ret (pe_makeC c_Guest (hr.mono (by decide)) (pa_cons (pv 2) (pa_cons (pv 3) (pa_cons (pv 4) (pa_cons (pv 5) (pa_cons (pv 6) (pa_cons (pv 7) pa_nil))))))))))))))), ?_⟩
    rw [st__law_made]
    walk_at "vz"
    refine ⟨[.int c.w, .ref x.pf, .ref x.pb, .ref x.pm, .ref x.pp, .int c.pl], SqL.of eh, rfl, ?_⟩
    walk_at "vz"
    have nb : ∀ xs, (none : Option (List Int)) = some xs → xs.length = 8 ∧ In (M c.w) xs := fun _ e => nomatch e
    have sb : ∀ xs, some c.bx = some xs → xs.length = 8 ∧ In (M c.w) xs := fun _ e => by cases e; exact ⟨co.lb, co.nb⟩
    have nm : ∀ xs, (none : Option (List Int)) = some xs → xs.length = 4 ∧ In 2 xs := fun _ e => nomatch e
    have sm : ∀ xs, some c.ms = some xs → xs.length = 4 ∧ In 2 xs := fun _ e => by cases e; exact ⟨co.lm, co.nm⟩
    have nd : ∀ xs, (none : Option (List Int)) = some xs → xs.length ≤ 60 ∧ In 16 xs := fun _ e => nomatch e
    have sd : ∀ xs, some c.pg = some xs → xs.length ≤ 60 ∧ In 16 xs := fun _ e => by cases e; exact ⟨by have := co.lp; omega, co.np⟩
    have p0 := co.p0
    have p1 := co.p1
    refine ite2 (fun h => ?_) (fun h0 => ite2 (fun h => ?_) (fun h1 => ite2 (fun h => ?_) (fun h2 => ite2 (fun h => ?_) (fun h3 => ite2 (fun h => ?_) (fun h4 => ?_)))))
    · subst h
      exact fun g dx H2 i2 => madeS (H := H) (madeK (bo := none) (mo := none) (wo := none) (pv := 0) co ca i2 k rfl rfl rfl rfl .non .non .non (by omega) (by omega) nb nm nd)
    · subst h
      exact fun g dx H2 i2 => madeS (H := H) (madeK (bo := some c.bx) (mo := none) (wo := none) (pv := 0) co ca i2 k rfl rfl rfl rfl (.ls (SqL.of (i2.same _ _ ca.bx))) .non .non (by omega) (by omega) sb nm nd)
    · subst h
      exact fun g dx H2 i2 => madeS (H := H) (madeK (bo := none) (mo := some c.ms) (wo := none) (pv := 0) co ca i2 k rfl rfl rfl rfl .non (.ls (i2.same.seqT ca.ms)) .non (by omega) (by omega) nb sm nd)
    · subst h
      exact fun g dx H2 i2 => madeK (bo := none) (mo := none) (wo := some c.pg) co ca i2 k rfl rfl rfl rfl .non .non (.ls (SqL.of (i2.same _ _ ca.pg))) p0 p1 nb nm sd
    · subst h
      exact fun g dx H2 i2 => madeK (bo := some c.bx) (mo := none) (wo := none) co ca i2 k rfl rfl rfl rfl (.ls (SqL.of (i2.same _ _ ca.bx))) .non .non p0 p1 sb nm nd
    · refine fun g dx H2 i2 => madeK (bo := some c.bx) (mo := some c.ms) (wo := some c.pg) co ca i2 k ?_ ?_ ?_ ?_ (.ls (SqL.of (i2.same _ _ ca.bx))) (.ls (i2.same.seqT ca.ms)) (.ls (SqL.of (i2.same _ _ ca.pg))) p0 p1 sb sm sd
      · exact if_neg (by omega)
      · exact if_neg (by omega)
      · exact if_neg (by omega)
      · exact if_neg (by omega)
theorem cutD1 {H : Hp} {y : Int} {c : Cs} {x : CsA} {R : Addr → Hp → Prop} (ca : CsAt K H c x) (k : ∀ (b : Addr) (H' : Hp), Same H H' → H' b = some (.lst (((wayB c y).getD (List.replicate 8 0)).map V.int)) → R b H') :
    ∀ (p : Addr) (H1 : Hp), New H p (.tup [V.int 0, V.int 2, V.int 3]) H1 → ∃ xs, (SqL K H1 p xs ∨ SqT K H1 p xs) ∧ flatV (V.int y) = true ∧ xs.all flatV = true ∧ if inV (V.int y) xs = true then ∀ (p2 : Addr) (H2 : Hp), New H1 p2 (.lst [V.int 0]) H2 → ∃ xs, H2 p2 = some (.lst xs) ∧ xs.length * 8 ≤ 16777216 ∧ ∀ (p3 : Addr) (H3 : Hp), New H2 p3 (.lst (List.replicate 8 xs).flatten) H3 → R p3 H3 else R x.pb H1 := by
  intro p H1 n1
  refine ⟨[0, 2, 3].map V.int, .inr (SqT.of n1.at'), rfl, rfl, ?_⟩
  rw [inV_ints]
  refine ite2 (fun h => ?_) (fun h => ?_)
  · have hy : y = 0 ∨ y = 2 ∨ y = 3 := by simpa using h
    have e : wayB c y = none := if_pos hy
    rw [e] at k
    exact fun p2 H2 n2 => ⟨_, n2.at', by simp, fun p3 H3 n3 => k p3 H3 (n1.same.trans (n2.same.trans n3.same)) n3.at'⟩
  · have hy : ¬ (y = 0 ∨ y = 2 ∨ y = 3) := by simpa using h
    have e : wayB c y = some c.bx := if_neg hy
    rw [e] at k
    exact k x.pb H1 n1.same (n1.same _ _ ca.bx)
theorem cutD2 {H : Hp} {y : Int} {c : Cs} {x : CsA} {R : Addr → Hp → Prop} (ca : CsAt K H c x) (k : ∀ (m : Addr) (H' : Hp), Same H H' → SqT K H' m (((wayM c y).getD [0, 0, 0, 0]).map V.int) → R m H') :
    ∀ (p : Addr) (H1 : Hp), New H p (.tup [V.int 0, V.int 1, V.int 3, V.int 4]) H1 → ∃ xs, (SqL K H1 p xs ∨ SqT K H1 p xs) ∧ flatV (V.int y) = true ∧ xs.all flatV = true ∧ if inV (V.int y) xs = true then ∀ (p2 : Addr) (H2 : Hp), New H1 p2 (.tup [V.int 0, V.int 0, V.int 0, V.int 0]) H2 → R p2 H2 else R x.pm H1 := by
  intro p H1 n1
  refine ⟨[0, 1, 3, 4].map V.int, .inr (SqT.of n1.at'), rfl, rfl, ?_⟩
  rw [inV_ints]
  refine ite2 (fun h => ?_) (fun h => ?_)
  · have hy : y = 0 ∨ y = 1 ∨ y = 3 ∨ y = 4 := by simpa using h
    have e : wayM c y = none := if_pos hy
    rw [e] at k
    exact fun p2 H2 n2 => k p2 H2 (n1.same.trans n2.same) (SqT.of n2.at')
  · have hy : ¬ (y = 0 ∨ y = 1 ∨ y = 3 ∨ y = 4) := by simpa using h
    have e : wayM c y = some c.ms := if_neg hy
    rw [e] at k
    exact k x.pm H1 n1.same (n1.same.seqT ca.ms)
theorem ok__law_due (F : Fun K "_law_due" "_law_due" s__law_due f fd) : FnOk P w K mg base CX0 1 f fd ["_law_case_here", "_law_way"] (sp_due K) := by
  refine F.ok sc__law_due (fun vs H Q E h => spN_len h) (fun cdv A outer s H vs Q E hr h => ?_)
  obtain ⟨t, _, rfl, h'0⟩ := spN_r h
  obtain ⟨y, _, rfl, h'1⟩ := spN_i h'0
  obtain ⟨rfl, h'n⟩ := spN_nil h'1
  clear h h'0 h'1
  obtain ⟨c, x, et, ca, k⟩ := h'n
  · skip
    refine ⟨_, (pss_cons (ps_asg (pv 0) (pg_tup (n := 6) rfl (pgs_cons (pg_name (i := 2) sc__law_due.nd rfl (by first | exact Or.inl rfl | exact Or.inr rfl)) (pgs_cons (pg_name (i := 3) sc__law_due.nd rfl (by first | exact Or.inl rfl | exact Or.inr rfl)) (pgs_cons (pg_name (i := 4) sc__law_due.nd rfl (by first | exact Or.inl rfl | exact Or.inr rfl)) (pgs_cons (pg_name (i := 5) sc__law_due.nd rfl (by first | exact Or.inl rfl | exact Or.inr rfl)) (pgs_cons (pg_name (i := 6) sc__law_due.nd rfl (by first | exact Or.inl rfl | exact Or.inr rfl)) (pgs_cons (pg_name (i := 7) sc__law_due.nd rfl (by first | exact Or.inl rfl | exact Or.inr rfl)) pgs_nil))))))))
      (pss_cons (ps_if (pt_cmpR op_in_seq (pv 1) (pe_tupA (pa_cons pe_int (pa_cons pe_int (pa_cons pe_int pa_nil)))) (nomk _)) (pss_one (ps_set (i := 4) sc__law_due.nd rfl (by first | exact Or.inl rfl | exact Or.inr rfl) (pe_op op_repA (pe_lstA (pa_cons pe_int pa_nil)) pe_int))) pss_nil)
      (pss_cons (ps_if (pt_cmpR op_in_seq (pv 1) (pe_tupA (pa_cons pe_int (pa_cons pe_int (pa_cons pe_int (pa_cons pe_int pa_nil))))) (nomk _)) (pss_one (ps_set (i := 5) sc__law_due.nd rfl (by first | exact Or.inl rfl | exact Or.inr rfl) (pe_tupA (pa_cons pe_int (pa_cons pe_int (pa_cons pe_int (pa_cons pe_int pa_nil))))))) pss_nil)
      (pss_cons (ps_if (pt_cmpR op_in_seq (pv 1) (pe_tupA (pa_cons pe_int (pa_cons pe_int (pa_cons pe_int pa_nil)))) (nomk _)) (pss_one (ps_set (i := 7) sc__law_due.nd rfl (by first | exact Or.inl rfl | exact Or.inr rfl) pe_int)) pss_nil)
      (pss_one (ps_ret (pe_tupA (pa_cons (pv 4) (pa_cons (pv 5) (pa_cons (pv 3) (pa_cons (pv 7) (pa_cons (pe_lstA pa_nil) (pa_cons pe_int pa_nil))))))))))))), ?_⟩
    rw [st__law_due]
    walk_at "vz"
    refine ⟨[.int c.w, .ref x.pf, .ref x.pb, .ref x.pm, .ref x.pp, .int c.pl], SqT.of et, rfl, ?_⟩
    walk_at "vz"
    refine cutD1 ca fun b H1 s1 e1 => ?_
    refine cutD2 (ca.same s1) fun m H2 s2 e2 => ?_
    intro p3 H3 n3
    refine ⟨[0, 1, 2].map V.int, .inr (SqT.of n3.at'), rfl, rfl, ?_⟩
    rw [inV_ints]
    have s3 := s1.trans (s2.trans n3.same)
    refine ite2 (fun h => ?_) (fun h => ?_)
    · have hy : y = 0 ∨ y = 1 ∨ y = 2 := by simpa using h
      have e : wayP c y = 0 := if_pos hy
      rw [e] at k
      exact fun q4 H4 n4 u H5 n5 => k H5 u b m q4 (s3.trans (n4.same.trans n5.same)) n5.at' (n5.same _ _ (n4.same _ _ (n3.same _ _ (s2 _ _ e1)))) (n5.same.seqT (n4.same.seqT (n3.same.seqT e2))) (n5.same _ _ n4.at')
    · have hy : ¬ (y = 0 ∨ y = 1 ∨ y = 2) := by simpa using h
      have e : wayP c y = c.pl := if_neg hy
      rw [e] at k
      exact fun q4 H4 n4 u H5 n5 => k H5 u b m q4 (s3.trans (n4.same.trans n5.same)) n5.at' (n5.same _ _ (n4.same _ _ (n3.same _ _ (s2 _ _ e1)))) (n5.same.seqT (n4.same.seqT (n3.same.seqT e2))) (n5.same _ _ n4.at')
end
/-- a stand as data -/
def stD (bx m fl sn : List Int) (pl dn : Int) : PyData := .tuple [.list (bx.map .int), .tuple (m.map .int), .list (fl.map .int), .int pl, .list (sn.map .int), .int dn]
theorem canI : ∀ l : List Int, PyData.canLayAll0 (l.map .int) = true
  | [] => rfl
  | x :: l => by simp [PyData.canLayAll0, PyData.canLay0, canI l]
theorem depI : ∀ l : List Int, PyData.depthAll (l.map .int) ≤ 5
  | [] => by simp [PyData.depthAll]
  | x :: l => by
    have := depI l
    simp [PyData.depthAll, PyData.depth]
    omega
theorem st_sh {bx m fl sn : List Int} {pl dn : Int} : SeqAt.shaped (stD bx m fl sn pl dn) = true := by
  have h1 := depI bx
  have h2 := depI m
  have h3 := depI fl
  have h4 := depI sn
  simp [SeqAt.shaped, stD, PyData.canLay0, PyData.canLayAll0, canI, PyData.depth, PyData.depthAll]
  omega
theorem rec_sh {n a b : Int} : SeqAt.shaped (.tuple [.str "bits", .int n, .int a, .int b]) = true := by
  have h : PyData.strOk "bits" = true := by decide +kernel
  simp [SeqAt.shaped, PyData.canLay0, PyData.canLayAll0, PyData.depth, PyData.depthAll, h]
theorem st_mix {bx m fl sn : List Int} {pl dn : Int} : SeqAt.noMix (stD bx m fl sn pl dn) (stD bx m fl sn pl dn) = true := by
  simp [stD, SeqAt.noMix, SeqAt.noMixAll, mixInts]
theorem st_dat {K : PySem.W.Frag} {H : Hp} {t b m f s : Addr} {bx mk fl sn : List Int} {pl dn : Int} (et : H t = some (.tup [.ref b, .ref m, .ref f, .int pl, .ref s, .int dn])) (eb : H b = some (.lst (bx.map V.int))) (em : SqT K H m (mk.map V.int)) (ef : H f = some (.lst (fl.map V.int))) (es : H s = some (.lst (sn.map V.int))) :
    DatV K H (.ref t) (stD bx mk fl sn pl dn) :=
  .tup (SqT.of et) (.cons (.lst (SqL.of eb) (datInts _)) (.cons (.tup em (datInts _)) (.cons (.lst (SqL.of ef) (datInts _)) (.cons (.int _) (.cons (.lst (SqL.of es) (datInts _)) (.cons (.int _) .nil))))))
theorem neS {K : PySem.W.Frag} {H : Hp} {x y : V} {D : PyData} {A R : Prop} (hx : DatV K H x D) (hy : DatV K H y D) (sh : SeqAt.shaped D = true) (nm : SeqAt.noMix D D = true) (k : R) :
    ∃ d e, DatV K H x d ∧ DatV K H y e ∧ SeqAt.shaped d = true ∧ SeqAt.shaped e = true ∧ SeqAt.noMix d e = true ∧ if Spec.same d e = false then A else R :=
  ⟨D, D, hx, hy, sh, sh, nm, by rw [if_neg (by rw [same_iff.mpr rfl]; exact fun z => nomatch z)]; exact k⟩
theorem eqS {K : PySem.W.Frag} {H : Hp} {x y : V} {D : PyData} {A R : Prop} (hx : DatV K H x D) (hy : DatV K H y D) (sh : SeqAt.shaped D = true) (nm : SeqAt.noMix D D = true) (k : R) :
    ∃ d e, DatV K H x d ∧ DatV K H y e ∧ SeqAt.shaped d = true ∧ SeqAt.shaped e = true ∧ SeqAt.noMix d e = true ∧ if Spec.same d e = true then R else A :=
  ⟨D, D, hx, hy, sh, sh, nm, by rw [if_pos (same_iff.mpr rfl)]; exact k⟩
theorem bits_mk {w : Int} {l : List Int} (hl : l.length = 4) (hi : In 2 l) : mks w "bits" (mkN l) 0 0 = l := by
  obtain ⟨a, b, c, d, rfl⟩ := four l hl
  have ha := hi a (by simp)
  have hb := hi b (by simp)
  have hc := hi c (by simp)
  have hd := hi d (by simp)
  show [mkN [a, b, c, d] % 2, mkN [a, b, c, d] / 2 % 2, mkN [a, b, c, d] / 4 % 2, mkN [a, b, c, d] / 8 % 2] = [a, b, c, d]
  have e : mkN [a, b, c, d] = a + 2 * b + 4 * c + 8 * d := rfl
  rw [e]
  congr 1
  · omega
  congr 1
  · omega
  congr 1
  · omega
  congr 1
  omega
theorem wayM_ok {c : Cs} (co : CsOk c) (y : Int) : ((wayM c y).getD [0, 0, 0, 0]).length = 4 ∧ In 2 ((wayM c y).getD [0, 0, 0, 0]) := by
  unfold wayM
  split
  · refine ⟨rfl, fun x hx => ?_⟩
    have : x = 0 := by simpa using hx
    omega
  · exact ⟨co.lm, co.nm⟩
section
variable {P : Program} {w : World} {K : PySem.W.Frag} {mg : Str → Option Value} {base : Heap} {f dS C : Addr} {fd : FuncData}
theorem cutP {H : Hp} {y : Int} {c : Cs} {x : CsA} {R : Addr → Hp → Prop} (ca : CsAt K H c x) (k : ∀ (q : Addr) (H' : Hp), Same H H' → H' q = some (.lst (((wayW c y).getD []).map V.int)) → R q H') :
    ∀ (p : Addr) (H1 : Hp), New H p (.tup [V.int 0, V.int 1, V.int 2, V.int 4]) H1 → ∃ xs, (SqL K H1 p xs ∨ SqT K H1 p xs) ∧ flatV (V.int y) = true ∧ xs.all flatV = true ∧ if inV (V.int y) xs = true then ∀ (p2 : Addr) (H2 : Hp), New H1 p2 (.lst []) H2 → R p2 H2 else R x.pp H1 := by
  intro p H1 n1
  refine ⟨[0, 1, 2, 4].map V.int, .inr (SqT.of n1.at'), rfl, rfl, ?_⟩
  rw [inV_ints]
  refine ite2 (fun h => ?_) (fun h => ?_)
  · have hy : y = 0 ∨ y = 1 ∨ y = 2 ∨ y = 4 := by simpa using h
    have e : wayW c y = none := if_pos hy
    rw [e] at k
    exact fun p2 H2 n2 => k p2 H2 (n1.same.trans n2.same) n2.at'
  · have hy : ¬ (y = 0 ∨ y = 1 ∨ y = 2 ∨ y = 4) := by simpa using h
    have e : wayW c y = some c.pg := if_neg hy
    rw [e] at k
    exact k x.pp H1 n1.same (n1.same _ _ ca.pg)
theorem ok__law_right (F : Fun K "_law_right" "_law_right" s__law_right f fd) (B : Bls mg) (hc : Cls K C) (na : ∀ f ∈ gfs, NoAttr K C f) (c__law_due : Cal P w K mg base "_law_due" 1 ["_law_case_here", "_law_way"] (sp_due K))
    (mS : MCal P w K mg base C "stand" 5 (sp_stand K C)) (mW : MCal P w K mg base C "is_ward" 1 (sp_ward K C)) : FnOk P w K mg base CX0 6 f fd ["_law_guest", "_law_case_here", "_law_way"] (sp_right K C) := by
  refine F.ok sc__law_right (fun vs H Q E h => spN_len h) (fun cdv A outer s H vs Q E hr h => ?_)
  obtain ⟨g, _, rfl, h'0⟩ := spN_r h
  obtain ⟨t, _, rfl, h'1⟩ := spN_r h'0
  obtain ⟨y, _, rfl, h'2⟩ := spN_i h'1
  obtain ⟨rfl, h'n⟩ := spN_nil h'2
  clear h h'0 h'1 h'2
  obtain ⟨c, x, d, a, et, ca, co, gu, du, k⟩ := h'n
  · skip
    have hU := hr.units
    refine ⟨_, (pss_cons (ps_set (i := 3) sc__law_right.nd rfl (by first | exact Or.inl rfl | exact Or.inr rfl) (pe_callC c__law_due (hr.mono (by decide)) (pa_cons (pv 1) (pa_cons (pv 2) pa_nil))))
      (pss_cons (ps_set (i := 4) sc__law_right.nd rfl (by first | exact Or.inl rfl | exact Or.inr rfl) (pe_ix ix_tup (pv 3) pe_int (fun _ _ => rfl)))
      (pss_cons (ps_if (PW.pt (pw_or (pt_cmpR (op_neD hU) (pe_methC0 (m := "stand") (k := 5) (pv 0) (hr.mono (by decide))) (pv 3) (nomk _)) (pw_or (pt_not (pt_val (pe_callB call_isiL rfl B.isinstance bb_isinstance (pa_cons (pe_ix ix_tup (pe_methC0 (m := "stand") (k := 5) (pv 0) (hr.mono (by decide))) pe_int (fun _ _ => rfl)) (pa_cons (pe_bltn (v := .ty "list") rfl B.list bb_list rfl) pa_nil))))) (pw_or1 (pt_not (pt_val (pe_callB call_isiT rfl B.isinstance bb_isinstance (pa_cons (pe_ix ix_tup (pe_methC0 (m := "stand") (k := 5) (pv 0) (hr.mono (by decide))) pe_int (fun _ _ => rfl)) (pa_cons (pe_bltn (v := .ty "tuple") rfl B.tuple bb_tuple rfl) pa_nil))))))))) (pss_one (ps_ret pe_bl)) pss_nil)
      (pss_cons (ps_if (PW.pt (pw_or (pt_cmpR op_ne (pe_fld (pv 0) rfl) (pe_ix ix_tup (pv 1) pe_int (fun _ _ => rfl)) (nomk _)) (pw_or (pt_cmpR (op_neD hU) (pe_fld (pv 0) rfl) (pe_ix ix_tup (pv 3) pe_int (fun _ _ => rfl)) (nomk _)) (pw_or (pt_cmpR (op_neD hU) (pe_fld (pv 0) rfl) (pe_ix ix_tup (pv 3) pe_int (fun _ _ => rfl)) (nomk _)) (pw_or1 (pt_cmpR op_ne (pe_fld (pv 0) rfl) (pe_ix ix_tup (pv 3) pe_int (fun _ _ => rfl)) (nomk _))))))) (pss_one (ps_ret pe_bl)) pss_nil)
      (pss_cons (ps_if (PW.pt (pw_or (pt_cmpR (op_neD hU) (pe_fld (pv 0) rfl) (pe_lstA pa_nil) (nomk _)) (pw_or1 (pt_cmpR op_ne (pe_fld (pv 0) rfl) pe_int (nomk _))))) (pss_one (ps_ret pe_bl)) pss_nil)
      (pss_cons (ps_set (i := 5) sc__law_right.nd rfl (by first | exact Or.inl rfl | exact Or.inr rfl) (pe_op op_add (pe_op op_add (pe_op op_add (pe_ix ix_tup (pv 4) pe_int (fun _ _ => rfl)) (pe_op op_mul pe_int (pe_ix ix_tup (pv 4) pe_int (fun _ _ => rfl)))) (pe_op op_mul pe_int (pe_ix ix_tup (pv 4) pe_int (fun _ _ => rfl)))) (pe_op op_mul pe_int (pe_ix ix_tup (pv 4) pe_int (fun _ _ => rfl)))))
      (pss_cons (ps_set (i := 6) sc__law_right.nd rfl (by first | exact Or.inl rfl | exact Or.inr rfl) (pe_ix ix_tup (pv 1) pe_int (fun _ _ => rfl)))
      (pss_cons (ps_if (pt_cmpR op_in_seq (pv 2) (pe_tupA (pa_cons pe_int (pa_cons pe_int (pa_cons pe_int (pa_cons pe_int pa_nil))))) (nomk _)) (pss_one (ps_set (i := 6) sc__law_right.nd rfl (by first | exact Or.inl rfl | exact Or.inr rfl) (pe_lstA pa_nil))) pss_nil)
      (pss_cons (ps_for PassesOwn.never rfl (pi_range1 rfl B.range (pa_cons pe_int pa_nil)) (pg_name (i := 7) sc__law_right.nd rfl (by first | exact Or.inl rfl | exact Or.inr rfl)) (pss_cons (ps_set (i := 8) sc__law_right.nd rfl (by first | exact Or.inl rfl | exact Or.inr rfl) (pe_methC (m := "is_ward") (k := 1) (pv 0) (hr.mono (by decide)) (pa_cons (pv 7) pa_nil)))
      (pss_one (ps_if (PW.pt (pw_or (pt_not (pt_val (pe_callB call_isi rfl B.isinstance bb_isinstance (pa_cons (pv 8) (pa_cons (pe_bltn (v := .ty "bool") rfl B.bool bb_bool rfl) pa_nil))))) (pw_or1 (pt_cmpR op_ne (pv 8) (pe_cmpR op_in_seq (pe_op op_fdiv (pv 7) pe_int) (pv 6) (nomk _)) (nomk _))))) (pss_one (ps_ret pe_bl)) pss_nil))))
      (pss_one (ps_ret (pe_cmpR (op_eqD hU) (pe_fld (pv 0) rfl) (pe_tupA (pa_cons pe_str (pa_cons (pv 5) (pa_cons pe_int (pa_cons pe_int pa_nil))))) (nomk _))))))))))))), ?_⟩
    rw [st__law_right]
    walk_at "vz"
    refine ⟨c, x, et, ca, fun H1 u b m s1 sm eu eb em es => ?_⟩
    walk_at "vz"
    refine ⟨_, _, SqT.of eu, rfl, ?_⟩
    obtain ⟨dx, eg⟩ := gu.ob
    have mo := wayM_ok co y
    have bm := bits_mk (w := c.w) mo.1 mo.2
    obtain ⟨w0, fl0, bx0, kd0, ra0, rb0, rc0, wd0, pl0, sn0, dn0⟩ := d
    obtain ⟨rfl, rfl, rfl, rfl, rfl, rfl, rfl, dw, rfl, rfl, rfl⟩ := du
    have stand : ∀ {H1 : Hp} {Q' : VK}, Same H H1 → (∀ (H2 : Hp) (t2 b2 m2 f2 s2 : Addr), Same H1 H2 → H2 t2 = some (.tup [.ref b2, .ref m2, .ref f2, .int (wayP c y), .ref s2, .int 0]) → H2 b2 = some (.lst (((wayB c y).getD (List.replicate 8 0)).map V.int)) → SqT K H2 m2 (((wayM c y).getD [0, 0, 0, 0]).map V.int) →
        DatV K H2 (.ref t2) (stD ((wayB c y).getD (List.replicate 8 0)) ((wayM c y).getD [0, 0, 0, 0]) c.fl [] (wayP c y) 0) → Q' (.ref t2) H2) → sp_stand K C [.ref g] H1 Q' E0 := by
      intro H1 Q' s1' k'
      rw [rd_stand]
      refine ⟨_, a, gu.same s1', co.hw, fun H2 t2 b2 m2 f2 s2 sm2 et2 eb2 em2 ef2 es2 _ _ _ _ => ?_⟩
      have em2' : H2 m2 = some (.tup (((wayM c y).getD [0, 0, 0, 0]).map V.int)) := by rw [em2]; exact congrArg (fun l => some (HO.tup (List.map V.int l))) bm
      exact k' H2 t2 b2 m2 f2 s2 sm2 et2 eb2 (SqT.of em2') (st_dat et2 eb2 (SqT.of em2') ef2 es2)
    refine ⟨C, dx, _, _, sm _ _ eg, rfl, mS, stand sm fun H2 t2 b2 m2 f2 g2 s2 et2 eb2 em2 dt2 => ?_⟩
    refine neS dt2 (st_dat (s2 _ _ eu) (s2 _ _ eb) (s2.seqT em) (s2 _ _ (sm _ _ ca.fl)) (s2 _ _ es)) st_sh st_mix ?_
    have q2 := sm.trans s2
    refine ⟨C, dx, _, _, q2 _ _ eg, rfl, mS, stand q2 fun H3 t3 b3 m3 f3 g3 s3 et3 eb3 em3 dt3 => ?_⟩
    walk_at "vz"
    have q3 := q2.trans s3
    refine ⟨_, _, SqT.of et3, rfl, ?_⟩
    walk_at "vz"
    refine ⟨⟨_, SqL.of eb3⟩, ?_⟩
    walk_at "vz"
    try rw [if_neg (fun z => nomatch z)]
    refine ⟨C, dx, _, _, q3 _ _ eg, rfl, mS, stand q3 fun H4 t4 b4 m4 f4 g4 s4 et4 eb4 em4 dt4 => ?_⟩
    have q4 := q3.trans s4
    walk_at "vz"
    refine ⟨_, _, SqT.of et4, rfl, ?_⟩
    walk_at "vz"
    refine ⟨⟨_, em4⟩, ?_⟩
    walk_at "vz"
    try rw [if_neg (fun z => nomatch z)]
    refine ⟨C, dx, _, _, q4 _ _ eg, hc, na _ (by walk_at "gi"), rfl, _, _, SqT.of (q4 _ _ et), rfl, ?_⟩
    walk_at "vz"
    have r4 : Same H1 H4 := s2.trans (s3.trans s4)
    refine ⟨C, dx, _, _, q4 _ _ eg, hc, na _ (by walk_at "gi"), rfl, _, _, SqT.of (r4 _ _ eu), rfl, neS (.lst (SqL.of (q4 _ _ gu.bx)) (datInts _)) (.lst (SqL.of (r4 _ _ eb)) (datInts _)) (shL_ints _) (mixL_ints _ _) ?_⟩
    refine ⟨C, dx, _, _, q4 _ _ eg, hc, na _ (by walk_at "gi"), rfl, _, _, SqT.of (r4 _ _ eu), rfl, neS (.lst (SqL.of (q4 _ _ gu.fl)) (datInts _)) (.lst (SqL.of (q4 _ _ ca.fl)) (datInts _)) (shL_ints _) (mixL_ints _ _) ?_⟩
    refine ⟨C, dx, _, _, q4 _ _ eg, hc, na _ (by walk_at "gi"), rfl, _, _, SqT.of (r4 _ _ eu), rfl, ?_⟩
    walk_at "vz"
    refine ⟨C, dx, _, _, q4 _ _ eg, hc, na _ (by walk_at "gi"), rfl, fun p5 H5 n5 => neS (.lst (SqL.of (n5.same _ _ (q4 _ _ gu.sn))) .nil) (.lst (SqL.of n5.at') .nil) rfl rfl ?_⟩
    have q5 := q4.trans n5.same
    have r5 := r4.trans n5.same
    refine ⟨C, dx, _, _, q5 _ _ eg, hc, na _ (by walk_at "gi"), rfl, ?_⟩
    walk_at "vz"
    obtain ⟨a0, b0, c0, d0, e4⟩ := four _ mo.1
    have em5 : SqT K H5 m [.int a0, .int b0, .int c0, .int d0] := by
      have := r5.seqT em
      rw [e4] at this
      exact this
    refine ⟨_, _, em5, rfl, _, _, em5, rfl, ?_⟩
    walk_at "vz"
    refine ⟨_, _, em5, rfl, ?_⟩
    walk_at "vz"
    refine ⟨_, _, em5, rfl, ?_⟩
    walk_at "vz"
    refine ⟨_, _, SqT.of (q5 _ _ et), rfl, cutP (ca.same q5) fun pq H6 s6 e6 => ?_⟩
    have q6 := q5.trans s6
    refine for_range (fun i σ H' => ∃ v7 v8, σ = [some (.ref g), some (.ref t), some (.int y), some (.ref u), some (.ref m), some (.int (a0 + 2 * b0 + 4 * c0 + 8 * d0)), some (.ref pq), v7, v8] ∧ H' = H6) ⟨none, none, rfl, rfl⟩ ?_ ?_
    · rintro i σ H7 hi ⟨v7, v8, rfl, rfl⟩
      walk_at "vz"
      refine ⟨C, dx, _, _, q6 _ _ eg, rfl, mW, ?_⟩
      walk_at "vz"
      refine ⟨_, a, gu.same q6, ?_⟩
      walk_at "vz"
      refine ⟨"bool", true, rfl, rfl, ?_⟩
      walk_at "vz"
      refine ⟨_, .inl (SqL.of e6), rfl, flat_ints, ?_⟩
      rw [inV_ints, if_neg (fun z => z (decide_eq_decide.mpr (dw _)))]
      exact ⟨_, _, rfl⟩
    · rintro σ H7 ⟨v7, v8, rfl, rfl⟩
      walk_at "vz"
      refine ⟨C, dx, _, _, q6 _ _ eg, hc, na _ (by walk_at "gi"), rfl, fun p8 H8 n8 => ?_⟩
      walk_at "vz"
      have en : mkN ((wayM c y).getD [0, 0, 0, 0]) = a0 + 2 * b0 + 4 * c0 + 8 * d0 := by rw [e4]; rfl
      have dr : DatV K H8 (V.ref a.pr) (.tuple [.str "bits", .int (a0 + 2 * b0 + 4 * c0 + 8 * d0), .int 0, .int 0]) := by
        rw [← en]
        exact .tup (n8.same.seqT (q6.seqT gu.rc)) (.cons (.str _) (.cons (.int _) (.cons (.int _) (.cons (.int _) .nil))))
      refine ⟨_, _, dr, .tup (SqT.of n8.at') (.cons (.str _) (.cons (.int _) (.cons (.int _) (.cons (.int _) .nil)))), ?_, ?_, ?_, ?_⟩
      · exact rec_sh
      · exact rec_sh
      · rfl
      · exact qb (k _ (q6.trans n8.same)) (same_iff.mpr rfl)
end
def spLaw (K : PySem.W.Frag) : Sp := fun vs H Q _ => ∃ (a : Addr) (ns : List Int), vs = [.ref a] ∧ SqL K H a (ns.map V.int) ∧ ns.length ≤ 63 ∧ ∀ H', Q (.bl true) H'
section
variable {P : Program} {w : World} {K : PySem.W.Frag} {mg : Str → Option Value} {base : Heap} {f dS C : Addr} {fd : FuncData}
theorem cut_map (l : List Int) (lo hi : Option Int) : ∃ pz : List Int, cutV (l.map V.int) lo hi = pz.map V.int ∧ (∀ j ∈ pz, j ∈ l) ∧ pz.length ≤ l.length := by
  unfold cutV
  refine ⟨List.take _ (List.drop _ l), by rw [List.map_take, List.map_drop], fun j hj => List.mem_of_mem_drop (List.mem_of_mem_take hj), ?_⟩
  rw [List.length_take, List.length_drop]
  omega
def l3D (a b c : List Int) : PyData := .list [.list (a.map .int), .list (b.map .int), .list (c.map .int)]
theorem l3_sh {a b c : List Int} : SeqAt.shaped (l3D a b c) = true := by
  have h1 := depI a
  have h2 := depI b
  have h3 := depI c
  simp [SeqAt.shaped, l3D, PyData.canLay0, PyData.canLayAll0, canI, PyData.depth, PyData.depthAll]
  omega
theorem l3_mix {a b c : List Int} : SeqAt.noMix (l3D a b c) (l3D a b c) = true := by simp [l3D, SeqAt.noMix, SeqAt.noMixAll, mixInts]
theorem l3_dat {K : PySem.W.Frag} {H : Hp} {p a b c : Addr} {xs ys zs : List Int} (e : H p = some (.lst [.ref a, .ref b, .ref c])) (ea : H a = some (.lst (xs.map V.int))) (eb : H b = some (.lst (ys.map V.int))) (ec : H c = some (.lst (zs.map V.int))) : DatV K H (.ref p) (l3D xs ys zs) :=
  .lst (SqL.of e) (.cons (.lst (SqL.of ea) (datInts _)) (.cons (.lst (SqL.of eb) (datInts _)) (.cons (.lst (SqL.of ec) (datInts _)) .nil)))
theorem way_mem {c : Cs} {pz : List Int} (mz : ∀ j ∈ pz, j ∈ c.pg) (y j : Int) : j ∈ (wayW ⟨c.w, c.fl, c.bx, c.ms, c.pg ++ pz, c.pl⟩ y).getD [] ↔ j ∈ (wayW c y).getD [] := by
  unfold wayW
  split
  · exact Iff.rfl
  · show j ∈ c.pg ++ pz ↔ j ∈ c.pg
    rw [List.mem_append]
    exact ⟨fun h => h.elim id (mz j), .inl⟩
theorem Gu.setB {K : PySem.W.Frag} {H H' : Hp} {C g : Addr} {d : GD} {a : GA} {l : List Int} (h : Gu K H C g d a) (w : Wrt H a.pb (.lst (l.map V.int)) H') : Gu K H' C g { d with bx := l } a := by
  obtain ⟨dx, eo⟩ := h.ob
  have nd := h.nd
  simp only [List.nodup_cons, List.mem_cons, List.mem_nil_iff, not_or, or_false, not_false_eq_true, List.nodup_nil, and_true] at nd
  have k : ∀ b u, b ≠ a.pb → H b = some u → H' b = some u := fun b u hb hu => by rw [w.els b hb]; exact hu
  exact ⟨⟨dx, k _ _ (fun z => by have := h.bx; rw [← z, eo] at this; cases this) eo⟩, k _ _ nd.1.1 h.fl, w.at', sqT_wrtL h.rc w h.bx, k _ _ (fun z => nd.2.1.1 z.symm) h.wd, k _ _ (fun z => nd.2.1.2 z.symm) h.sn, h.nd⟩
theorem Gu.setF {K : PySem.W.Frag} {H H' : Hp} {C g : Addr} {d : GD} {a : GA} {l : List Int} (h : Gu K H C g d a) (w : Wrt H a.pf (.lst (l.map V.int)) H') : Gu K H' C g { d with fl := l } a := by
  obtain ⟨dx, eo⟩ := h.ob
  have nd := h.nd
  simp only [List.nodup_cons, List.mem_cons, List.mem_nil_iff, not_or, or_false, not_false_eq_true, List.nodup_nil, and_true] at nd
  have k : ∀ b u, b ≠ a.pf → H b = some u → H' b = some u := fun b u hb hu => by rw [w.els b hb]; exact hu
  exact ⟨⟨dx, k _ _ (fun z => by have := h.fl; rw [← z, eo] at this; cases this) eo⟩, w.at', k _ _ (fun z => nd.1.1 z.symm) h.bx, sqT_wrtL h.rc w h.fl, k _ _ (fun z => nd.1.2.1 z.symm) h.wd, k _ _ (fun z => nd.1.2.2 z.symm) h.sn, h.nd⟩
theorem gok_made {c : Cs} (co : CsOk c) (y : Int) {wd : List Int} (h : Pgs wd ((wayW c y).getD [])) : GOk (GD.made c.w c.fl (wayB c y) (wayM c y) wd (wayP c y)) := by
  have hp := pw co.hw
  refine ⟨co.hw, co.lf, co.nf, ?_, ?_, ?_, ?_, ?_, ?_⟩
  · show ((wayB c y).getD (List.replicate 8 0)).length = 8
    unfold wayB
    split
    · rfl
    · exact co.lb
  · show In (M c.w) ((wayB c y).getD (List.replicate 8 0))
    unfold wayB
    split
    · intro x hx
      have : x = 0 := by simpa using hx
      rw [this]
      exact ⟨by omega, by show (0 : Int) < 2 ^ c.w.toNat; omega⟩
    · exact co.nb
  · have := h.len
    have hl : ((wayW c y).getD []).length ≤ 40 := by
      unfold wayW
      split
      · simp
      · exact co.lp
    show wd.length ≤ 60
    omega
  · refine h.inn ?_
    unfold wayW
    split
    · intro x hx; cases hx
    · exact co.np
  · show 0 ≤ wayP c y
    unfold wayP
    have := co.p0
    split <;> omega
  · show wayP c y ≤ 255
    unfold wayP
    have := co.p1
    split <;> omega
theorem ok_law (F : Fun K "law" "law" s_law f fd) (B : Bls mg) (hc : Cls K C) (na : ∀ f ∈ gfs, NoAttr K C f) (c__law_cell_at : Cal P w K mg base "_law_cell_at" 1 ["_law_script", "_law_k"] (sp_cell K)) (c__law_case : Cal P w K mg base "_law_case" 5 ["_law_script"] (sp_case K))
    (c__law_made : Cal P w K mg base "_law_made" 7 ["_law_case_here", "_law_way"] (sp_made K C)) (c__law_right : Cal P w K mg base "_law_right" 6 ["_law_guest", "_law_case_here", "_law_way"] (sp_right K C))
    (mS : MCal P w K mg base C "stand" 5 (sp_stand K C)) (mT : MCal P w K mg base C "twin" 7 (sp_twin K C)) : FnOk P w K mg base CX0 8 f fd ["_law_script"] (spLaw K) := by
  refine F.ok sc_law (fun vs H Q E h => by obtain ⟨_, _, rfl, _⟩ := h; rfl) (fun cdv A outer s H vs Q E hr h => ?_)
  obtain ⟨a, ns, rfl, hS, hlen, k⟩ := h
  have hU := hr.units
  refine ⟨_, (pss_cons (ps_set (i := 1) sc_law.nd rfl (by first | exact Or.inl rfl | exact Or.inr rfl) (pe_callC c__law_case (hr.mono (by decide)) (pa_cons (pv 0) pa_nil)))
      (pss_cons (ps_set (i := 2) sc_law.nd rfl (by first | exact Or.inl rfl | exact Or.inr rfl) (pe_op op_mod (pe_op op_fdiv (pe_callC c__law_cell_at (hr.mono (by decide)) (pa_cons (pv 0) (pa_cons pe_int pa_nil))) pe_int) pe_int))
      (pss_cons (ps_set (i := 3) sc_law.nd rfl (by first | exact Or.inl rfl | exact Or.inr rfl) (pe_lstA (pa_cons (pe_ix ix_tup (pv 1) pe_int (fun _ _ => rfl)) (pa_cons (pe_callTy call_listA rfl B.list bb_list (pa_cons (pe_ix ix_tup (pv 1) pe_int (fun _ _ => rfl)) pa_nil)) (pa_cons (pe_callTy call_listA rfl B.list bb_list (pa_cons (pe_ix ix_tup (pv 1) pe_int (fun _ _ => rfl)) pa_nil)) (pa_cons (pe_ix ix_tup (pv 1) pe_int (fun _ _ => rfl)) (pa_cons (pe_op op_catA (pe_ix ix_tup (pv 1) pe_int (fun _ _ => rfl)) (pe_slice sl_listA (pe_ix ix_tup (pv 1) pe_int (fun _ _ => rfl)) po_none (po_some pe_int))) (pa_cons (pe_ix ix_tup (pv 1) pe_int (fun _ _ => rfl)) pa_nil))))))))
      (pss_cons (ps_set (i := 4) sc_law.nd rfl (by first | exact Or.inl rfl | exact Or.inr rfl) (pe_lstA (pa_cons (pe_callTy call_listA rfl B.list bb_list (pa_cons (pe_ix ix_list (pv 3) pe_int (fun _ _ => rfl)) pa_nil)) (pa_cons (pe_callTy call_listA rfl B.list bb_list (pa_cons (pe_ix ix_list (pv 3) pe_int (fun _ _ => rfl)) pa_nil)) (pa_cons (pe_callTy call_listA rfl B.list bb_list (pa_cons (pe_ix ix_list (pv 3) pe_int (fun _ _ => rfl)) pa_nil)) pa_nil)))))
      (pss_cons (ps_set (i := 5) sc_law.nd rfl (by first | exact Or.inl rfl | exact Or.inr rfl) (pe_callC c__law_made (hr.mono (by decide)) (pa_cons (pv 3) (pa_cons (pv 2) pa_nil))))
      (pss_cons (ps_if (pt_cmpR (op_neD hU) (pe_lstA (pa_cons (pe_ix ix_list (pv 3) pe_int (fun _ _ => rfl)) (pa_cons (pe_ix ix_list (pv 3) pe_int (fun _ _ => rfl)) (pa_cons (pe_ix ix_list (pv 3) pe_int (fun _ _ => rfl)) pa_nil)))) (pv 4) (nomk _)) (pss_one (ps_ret pe_bl)) pss_nil)
      (pss_cons (ps_set (i := 6) sc_law.nd rfl (by first | exact Or.inl rfl | exact Or.inr rfl) (pe_methC0 (m := "twin") (k := 7) (pv 5) (hr.mono (by decide))))
      (pss_cons (ps_expr (pe_bm0 PySem.F.plainAttrs_list PySem.F.slot_list_clear PySem.F.type_list_clear mt_clearA (pe_ix ix_list (pv 3) pe_int (fun _ _ => rfl))))
      (pss_cons (ps_asg (pe_op op_add (pe_ix ix_list (pe_ix ix_list (pv 3) pe_int (fun _ _ => rfl)) pe_int (fun _ _ => rfl)) pe_int) (pg_sub (pe_ix ix_list (pv 3) pe_int (fun _ _ => rfl)) pe_int set_listA))
      (pss_cons (ps_expr (pe_bm PySem.F.plainAttrs_list PySem.F.slot_list_append PySem.F.type_list_append mt_appendA (pe_ix ix_list (pv 3) pe_int (fun _ _ => rfl)) (pa_cons pe_int pa_nil)))
      (pss_cons (ps_set (i := 7) sc_law.nd rfl (by first | exact Or.inl rfl | exact Or.inr rfl) (pe_methC0 (m := "stand") (k := 5) (pv 5) (hr.mono (by decide))))
      (pss_cons (ps_expr (pe_bm0 PySem.F.plainAttrs_list PySem.F.slot_list_clear PySem.F.type_list_clear mt_clearA (pe_ix ix_tup (pv 7) pe_int (fun _ _ => rfl))))
      (pss_cons (ps_expr (pe_bm PySem.F.plainAttrs_list PySem.F.slot_list_append PySem.F.type_list_append mt_appendA (pe_ix ix_tup (pv 7) pe_int (fun _ _ => rfl)) (pa_cons pe_int pa_nil)))
      (pss_cons (ps_expr (pe_bm PySem.F.plainAttrs_list PySem.F.slot_list_append PySem.F.type_list_append mt_appendA (pe_ix ix_tup (pv 7) pe_int (fun _ _ => rfl)) (pa_cons pe_int pa_nil)))
      (pss_cons (ps_if (PW.pt (pw_or (pt_not (pt_val (pe_callC c__law_right (hr.mono (by decide)) (pa_cons (pv 5) (pa_cons (pv 1) (pa_cons (pv 2) pa_nil)))))) (pw_or1 (pt_not (pt_val (pe_callC c__law_right (hr.mono (by decide)) (pa_cons (pv 6) (pa_cons (pv 1) (pa_cons (pv 2) pa_nil))))))))) (pss_one (ps_ret pe_bl)) pss_nil)
      (pss_cons (ps_asg pe_int (pg_sub (pe_fld (pv 6) rfl) pe_int set_listA))
      (pss_cons (ps_asg pe_int (pg_sub (pe_fld (pv 6) rfl) pe_int set_listA))
      (pss_cons (ps_if (pt_not (pt_val (pe_callC c__law_right (hr.mono (by decide)) (pa_cons (pv 5) (pa_cons (pv 1) (pa_cons (pv 2) pa_nil)))))) (pss_one (ps_ret pe_bl)) pss_nil)
      (pss_cons (ps_set (i := 8) sc_law.nd rfl (by first | exact Or.inl rfl | exact Or.inr rfl) (pe_methC0 (m := "twin") (k := 7) (pv 6) (hr.mono (by decide))))
      (pss_one (ps_ret (pe_and (pe_cmpR (op_eqD hU) (pe_methC0 (m := "stand") (k := 5) (pv 8) (hr.mono (by decide))) (pe_methC0 (m := "stand") (k := 5) (pv 6) (hr.mono (by decide))) (nomk _)) (pe_one (pe_cmpR (op_eqD hU) (pe_fld (pv 8) rfl) (pe_fld (pv 6) rfl) (nomk _))))))))))))))))))))))))), ?_⟩
  rw [st_law]
  walk_at "vz"
  refine ⟨ns, hS, fun t c x H1 s1 et ca co cl => ⟨ns, s1.seq hS, fun z => ?_⟩⟩
  walk_at "vz"
  obtain ⟨y, ey⟩ : ∃ y, y = z / 7 % 8 := ⟨_, rfl⟩
  have y0 : 0 ≤ y := by omega
  have y1 : y ≤ 7 := by omega
  rw [← ey]
  refine ⟨_, _, SqT.of et, rfl, _, _, SqT.of et, rfl, ?_⟩
  walk_at "vz"
  refine ⟨_, .inl (SqL.of ca.fl), fun hf H2 n2 => ?_⟩
  refine ⟨_, _, SqT.of (n2.same _ _ et), rfl, ?_⟩
  walk_at "vz"
  refine ⟨_, .inl (SqL.of (n2.same _ _ ca.bx)), fun hb H3 n3 => ?_⟩
  have s3 := n2.same.trans n3.same
  refine ⟨_, _, SqT.of (s3 _ _ et), rfl, _, _, SqT.of (s3 _ _ et), rfl, _, _, SqT.of (s3 _ _ et), rfl, ?_⟩
  walk_at "vz"
  obtain ⟨pz, ez, mz, lz⟩ := cut_map c.pg none (some 1)
  refine ⟨_, SqL.of (s3 _ _ ca.pg), fun p4 H4 n4 => ⟨_, _, n4.same _ _ (s3 _ _ ca.pg), n4.at', by rw [ez, List.length_map, List.length_map]; omega, fun hp H5 n5 => ?_⟩⟩
  rw [ez, ← List.map_append] at n5
  have s5 := s3.trans (n4.same.trans n5.same)
  refine ⟨_, _, SqT.of (s5 _ _ et), rfl, fun hd H6 n6 => ?_⟩
  have s6 := s5.trans n6.same
  have hF6 := n6.same _ _ ((n3.same.trans (n4.same.trans n5.same)) _ _ n2.at')
  have hB6 := n6.same _ _ ((n4.same.trans n5.same) _ _ n3.at')
  have hP6 := n6.same _ _ n5.at'
  have nFc : hf ∉ [x.pf, x.pb, x.pp] := ca.notin n2.nw
  have nBc : hb ∉ [x.pf, x.pb, x.pp] := (ca.same n2.same).notin n3.nw
  have nPc : hp ∉ [x.pf, x.pb, x.pp] := (ca.same (s3.trans n4.same)).notin n5.nw
  have nBF : hb ≠ hf := fun z => by have := n3.nw; rw [z, n2.at'] at this; cases this
  have nPF : hp ≠ hf := fun z => by have := n5.nw; rw [z, (n3.same.trans n4.same) _ _ n2.at'] at this; cases this
  have nPB : hp ≠ hb := fun z => by have := n5.nw; rw [z, n4.same _ _ n3.at'] at this; cases this
  refine ⟨_, _, SqL.of n6.at', rfl, ?_⟩
  walk_at "vz"
  refine ⟨_, .inl (SqL.of hF6), fun bf H7 n7 => ?_⟩
  refine ⟨_, _, SqL.of (n7.same _ _ n6.at'), rfl, ?_⟩
  walk_at "vz"
  refine ⟨_, .inl (SqL.of (n7.same _ _ hB6)), fun bb H8 n8 => ?_⟩
  have s8 := n7.same.trans n8.same
  refine ⟨_, _, SqL.of (s8 _ _ n6.at'), rfl, ?_⟩
  walk_at "vz"
  refine ⟨_, .inl (SqL.of (s8 _ _ hP6)), fun bp H9 n9 bl H10 n10 => ?_⟩
  have s10 := s8.trans (n9.same.trans n10.same)
  have ca10 := ca.same (s6.trans s10)
  have co2 : CsOk ⟨c.w, c.fl, c.bx, c.ms, c.pg ++ pz, c.pl⟩ := ⟨co.hw, co.lf, co.nf, co.lb, co.nb, co.lm, co.nm, by show (c.pg ++ pz).length ≤ 40; rw [List.length_append]; omega, fun j hj => (List.mem_append.mp hj).elim (co.np j) (fun h => co.np j (mz j h)), co.p0, co.p1⟩
  have ca2 : CsAt K H10 ⟨c.w, c.fl, c.bx, c.ms, c.pg ++ pz, c.pl⟩ ⟨hf, hb, x.pm, hp⟩ := ⟨s10 _ _ hF6, s10 _ _ hB6, ca10.ms, s10 _ _ hP6, by simp [nBF.symm, nPF.symm, nPB.symm]⟩
  refine ⟨⟨c.w, c.fl, c.bx, c.ms, c.pg ++ pz, c.pl⟩, ⟨hf, hb, x.pm, hp⟩, s10 _ _ n6.at', ca2, co2, y0, y1, fun H11 g ag wg s11 gu pg fr fg => ?_⟩
  walk_at "vz"
  have q11 := s10.trans s11
  refine ⟨_, _, SqL.of (q11 _ _ n6.at'), rfl, _, _, SqL.of (q11 _ _ n6.at'), rfl, _, _, SqL.of (q11 _ _ n6.at'), rfl, fun p12 H12 n12 => ?_⟩
  have q12 := q11.trans n12.same
  have r12 := s11.trans n12.same
  refine neS (l3_dat n12.at' (q12 _ _ hF6) (q12 _ _ hB6) (q12 _ _ hP6)) (l3_dat (r12 _ _ n10.at') (r12 _ _ ((n8.same.trans (n9.same.trans n10.same)) _ _ n7.at')) (r12 _ _ ((n9.same.trans n10.same) _ _ n8.at')) (r12 _ _ (n10.same _ _ n9.at'))) l3_sh l3_mix ?_
  have gu12 := gu.same n12.same
  obtain ⟨dx, eg⟩ := gu12.ob
  refine ⟨C, dx, _, _, eg, rfl, mT, ?_⟩
  walk_at "vz"
  refine ⟨_, ag, gu12, gok_made co2 y pg, fun H13 o ao wo s13 guo pgo fro fo => ?_⟩
  have gu13 := gu12.same s13
  have q13 := q12.trans s13
  have ca13 := ca10.same (r12.trans s13)
  have et13 := (s6.trans q13) _ _ et
  have hd13 := q13 _ _ n6.at'
  have fr6 : ∀ {q u}, H10 q = some u → q ∉ [ag.pf, ag.pb, ag.pw, ag.ps] := fun e => fresh_notin fr e
  have fro6 : ∀ {q u}, H12 q = some u → q ∉ [ao.pf, ao.pb, ao.pw, ao.ps] := fun e => fresh_notin fro e
  walk_at "vz"
  have e14 := q13 _ _ hF6
  refine ⟨_, _, SqL.of hd13, rfl, ?_⟩
  walk_at "vz"
  refine ⟨.inl ⟨rfl, _, SqL.of e14⟩, _, e14, fun H14 w14 => ?_⟩
  have gu14 := gu13.wrt w14 e14 (fr6 (s10 _ _ hF6))
  have guo14 := guo.wrt w14 e14 (fro6 (q12 _ _ hF6))
  have ca14 := ca13.wrt w14 e14 nFc
  have et14 := tup_wrt et13 w14 e14
  have nhd : hd ≠ hf ∧ hd ≠ hb ∧ hd ≠ hp := by
    refine ⟨fun z => ?_, fun z => ?_, fun z => ?_⟩
    · have := n6.nw; rw [z, (n3.same.trans (n4.same.trans n5.same)) _ _ n2.at'] at this; cases this
    · have := n6.nw; rw [z, (n4.same.trans n5.same) _ _ n3.at'] at this; cases this
    · have := n6.nw; rw [z, n5.at'] at this; cases this
  have hd14 : H14 hd = some (.lst [.int c.w, .ref hf, .ref hb, .ref x.pm, .ref hp, .int c.pl]) := by rw [w14.els hd nhd.1]; exact hd13
  have hB14 : H14 hb = some (.lst (c.bx.map V.int)) := by rw [w14.els hb nBF]; exact q13 _ _ hB6
  have hP14 : H14 hp = some (.lst ((c.pg ++ pz).map V.int)) := by rw [w14.els hp nPF]; exact q13 _ _ hP6
  refine ⟨_, _, SqL.of hd14, rfl, ?_⟩
  walk_at "vz"
  have l8 := co.lb
  refine ⟨_, _, SqL.of hB14, atI_ints (by omega) (by omega), ?_⟩
  walk_at "vz"
  refine ⟨_, _, SqL.of hd14, rfl, ?_⟩
  walk_at "vz"
  refine ⟨_, 0, hB14, by unfold ixN; rw [if_pos (by omega), List.length_map, if_pos (by omega)]; rfl, fun H15 w15 => ?_⟩
  have gu15 := gu14.wrt w15 hB14 (fr6 (s10 _ _ hB6))
  have guo15 := guo14.wrt w15 hB14 (fro6 (q12 _ _ hB6))
  have ca15 := ca14.wrt w15 hB14 nBc
  have et15 := tup_wrt et14 w15 hB14
  have hd15 : H15 hd = some (.lst [.int c.w, .ref hf, .ref hb, .ref x.pm, .ref hp, .int c.pl]) := by rw [w15.els hd nhd.2.1]; exact hd14
  have hP15 : H15 hp = some (.lst ((c.pg ++ pz).map V.int)) := by rw [w15.els hp nPB]; exact hP14
  refine ⟨_, _, SqL.of hd15, rfl, .inl ⟨rfl, _, SqL.of hP15⟩, ?_⟩
  walk_at "vz"
  refine ⟨_, hP15, by rw [List.length_map, List.length_append]; omega, fun H16 w16 => ?_⟩
  have gu16 := gu15.wrt w16 hP15 (fr6 (s10 _ _ hP6))
  have guo16 := guo15.wrt w16 hP15 (fro6 (q12 _ _ hP6))
  have ca16 := ca15.wrt w16 hP15 nPc
  have et16 := tup_wrt et15 w16 hP15
  obtain ⟨dx16, eg16⟩ := gu16.ob
  refine ⟨C, dx16, _, _, eg16, rfl, mS, ?_⟩
  walk_at "vz"
  refine ⟨_, ag, gu16, co.hw, fun H17 t17 b17 m17 f17 u17 s17 et17 eb17 em17 ef17 eu17 nd17 fb17 ff17 fu17 => ?_⟩
  have gu17 := gu16.same s17
  have guo17 := guo16.same s17
  have ca17 := ca16.same s17
  simp only [List.nodup_cons, List.mem_cons, List.mem_nil_iff, not_or, or_false, not_false_eq_true, List.nodup_nil, and_true] at nd17
  walk_at "vz"
  refine ⟨_, _, SqT.of et17, rfl, ?_⟩
  walk_at "vz"
  refine ⟨.inl ⟨rfl, _, SqL.of eb17⟩, _, eb17, fun H18 w18 => ?_⟩
  have gu18 := gu17.wrt w18 eb17 (gu16.notin fb17)
  have guo18 := guo17.wrt w18 eb17 (guo16.notin fb17)
  have ca18 := ca17.wrt w18 eb17 (ca16.notin fb17)
  have et18 := tup_wrt (s17 _ _ et16) w18 eb17
  have tt18 := tup_wrt et17 w18 eb17
  have ef18 : H18 f17 = some (.lst (c.fl.map V.int)) := by rw [w18.els f17 fun z => nd17.1.1 z.symm]; exact ef17
  have eu18 : H18 u17 = some (.lst []) := by rw [w18.els u17 fun z => nd17.1.2 z.symm]; exact eu17
  refine ⟨_, _, SqT.of tt18, rfl, .inl ⟨rfl, _, SqL.of ef18⟩, ?_⟩
  walk_at "vz"
  have l256 := co.lf
  refine ⟨_, ef18, by rw [List.length_map]; omega, fun H19 w19 => ?_⟩
  have gu19 := gu18.wrt w19 ef18 (gu16.notin ff17)
  have guo19 := guo18.wrt w19 ef18 (guo16.notin ff17)
  have ca19 := ca18.wrt w19 ef18 (ca16.notin ff17)
  have et19 := tup_wrt et18 w19 ef18
  have tt19 := tup_wrt tt18 w19 ef18
  have eu19 : H19 u17 = some (.lst []) := by rw [w19.els u17 fun z => nd17.2 z.symm]; exact eu18
  refine ⟨_, _, SqT.of tt19, rfl, .inl ⟨rfl, _, SqL.of eu19⟩, ?_⟩
  walk_at "vz"
  refine ⟨_, eu19, by simp, fun H20 w20 => ?_⟩
  have gu20 := gu19.wrt w20 eu19 (gu16.notin fu17)
  have guo20 := guo19.wrt w20 eu19 (guo16.notin fu17)
  have ca20 := ca19.wrt w20 eu19 (ca16.notin fu17)
  have et20 := tup_wrt et19 w20 eu19
  have dg : Due c y (GD.made c.w c.fl (wayB c y) (wayM c y) wg (wayP c y)) := ⟨rfl, rfl, rfl, rfl, rfl, rfl, rfl, fun j => (pg.mem j).trans (way_mem mz y j), rfl, rfl, rfl⟩
  have dgo : Due c y (GD.made c.w c.fl (wayB c y) (wayM c y) wo (wayP c y)) := ⟨rfl, rfl, rfl, rfl, rfl, rfl, rfl, fun j => (pgo.mem j).trans ((pg.mem j).trans (way_mem mz y j)), rfl, rfl, rfl⟩
  refine ⟨c, x, _, ag, et20, ca20, co, gu20, dg, fun H21 s21 => ?_⟩
  walk_at "vz"
  refine ⟨c, x, _, ao, s21 _ _ et20, ca20.same s21, co, guo20.same s21, dgo, fun H22 s22 => ?_⟩
  have s202 := s21.trans s22
  have gu22 := gu20.same s202
  have guo22 := guo20.same s202
  have ca22 := ca20.same s202
  have et22 := s202 _ _ et20
  walk_at "vz"
  obtain ⟨dxo, ego⟩ := guo22.ob
  refine ⟨C, dxo, _, _, ego, hc, na _ (by walk_at "gi"), rfl, ?_⟩
  walk_at "vz"
  have go2 := gok_made co2 y pg
  refine ⟨_, 3, guo22.bx, ?_, fun H23 w23 => ?_⟩
  · have : ((wayB c y).getD (List.replicate 8 0)).length = 8 := go2.lb
    unfold ixN
    rw [if_pos (by omega)]
    show (if (3 : Int) < ((((wayB c y).getD (List.replicate 8 0)).map V.int).length : Int) then some (3 : Int).toNat else none) = some 3
    rw [List.length_map, this]
    rfl
  rw [← List.map_set (f := V.int) (a := 7)] at w23
  have nb12 : H12 ao.pb = none := fro _ (by simp)
  have nf12 : H12 ao.pf = none := fro _ (by simp)
  have ca12 := ca10.same r12
  have gu23 := gu22.wrt w23 guo22.bx (gu12.notin nb12)
  have ca23 := ca22.wrt w23 guo22.bx (ca12.notin nb12)
  have et23 := tup_wrt et22 w23 guo22.bx
  have guo23 := guo22.setB w23
  walk_at "vz"
  obtain ⟨dxp, egp⟩ := guo23.ob
  refine ⟨C, dxp, _, _, egp, hc, na _ (by walk_at "gi"), rfl, ?_⟩
  walk_at "vz"
  refine ⟨_, 9, guo23.fl, ?_, fun H24 w24 => ?_⟩
  · unfold ixN
    rw [if_pos (by omega)]
    show (if (9 : Int) < (((c.fl).map V.int).length : Int) then some (9 : Int).toNat else none) = some 9
    rw [List.length_map, l256]
    rfl
  rw [← List.map_set (f := V.int) (a := 9)] at w24
  have gu24 := gu23.wrt w24 guo23.fl (gu12.notin nf12)
  have ca24 := ca23.wrt w24 guo23.fl (ca12.notin nf12)
  have et24 := tup_wrt et23 w24 guo23.fl
  have guo24 := guo23.setF w24
  refine ⟨c, x, _, ag, et24, ca24, co, gu24, dg, fun H25 s25 => ?_⟩
  have guo25 := guo24.same s25
  walk_at "vz"
  obtain ⟨dx25, eo25⟩ := guo25.ob
  refine ⟨C, dx25, _, _, eo25, rfl, mT, ?_⟩
  walk_at "vz"
  have hpw := pw co.hw
  have h256 : (256 : Int) ≤ 2 ^ c.w.toNat := by rcases co.hw with h | h | h <;> rw [h] <;> decide
  refine ⟨_, ao, guo25, ⟨co.hw, by show (c.fl.set 9 9).length = 256; rw [List.length_set]; exact l256, in_set co.nf (by omega) (by omega), by show (((wayB c y).getD (List.replicate 8 0)).set 3 7).length = 8; rw [List.length_set]; exact go2.lb, in_set go2.nb (by omega) (by show (7 : Int) < 2 ^ c.w.toNat; omega), by have := pgo.len; have := go2.lw; exact Nat.le_trans ‹wo.length ≤ _› ‹_›, pgo.inn go2.nw, go2.p0, go2.p1⟩, fun H26 h ah wh s26 guh pgh frh fh => ?_⟩
  have guo26 := guo25.same s26
  walk_at "vz"
  obtain ⟨dx26, eh26⟩ := guh.ob
  refine ⟨C, dx26, _, _, eh26, rfl, mS, ?_⟩
  walk_at "vz"
  refine ⟨_, ah, guh, co.hw, fun H27 t27 b27 m27 f27 u27 s27 et27 eb27 em27 ef27 eu27 _ _ _ _ => ?_⟩
  have guo27 := guo26.same s27
  obtain ⟨dx27, eo27⟩ := guo27.ob
  refine ⟨C, dx27, _, _, eo27, rfl, mS, ?_⟩
  walk_at "vz"
  refine ⟨_, ao, guo27, co.hw, fun H28 t28 b28 m28 f28 u28 s28 et28 eb28 em28 ef28 eu28 _ _ _ _ => ?_⟩
  have guo28 := guo27.same s28
  have guh28 := guh.same (s27.trans s28)
  walk_at "vz"
  have d27 := st_dat (K := K) (s28 _ _ et27) (s28 _ _ eb27) (SqT.of (s28 _ _ em27)) (s28 _ _ ef27) (s28 _ _ eu27)
  have d28 := st_dat (K := K) et28 eb28 (SqT.of em28) ef28 eu28
  refine eqS d27 d28 st_sh st_mix ?_
  obtain ⟨dxA, ehA⟩ := guh28.ob
  obtain ⟨dxB, eoB⟩ := guo28.ob
  refine ⟨C, dxA, _, _, ehA, hc, na _ (by walk_at "gi"), rfl, C, dxB, _, _, eoB, hc, na _ (by walk_at "gi"), rfl, ?_⟩
  refine ⟨_, _, .tup guh28.rc (.cons (.str _) (.cons (.int _) (.cons (.int _) (.cons (.int _) .nil)))), .tup guo28.rc (.cons (.str _) (.cons (.int _) (.cons (.int _) (.cons (.int _) .nil)))), rec_sh, rec_sh, rfl, ?_⟩
  exact qb (k _) (same_iff.mpr rfl)
end
def gKeyU (us ws : List Value) : List Value := match us, ws with
  | [x, w, f], [p, q] => [x, w, f, .none, .none, q, p]
  | _, _ => []
theorem gKey_rel {vs : List V} {us : List Value} {zs : List V} {ws : List Value} (h1 : Vals vs us) (h2 : Vals zs ws) : Vals (gKey vs zs) (gKeyU us ws) := by
  cases h1 with
  | nil => exact .nil
  | cons a h1 => cases h1 with
    | nil => exact .nil
    | cons b h1 => cases h1 with
      | nil => exact .nil
      | cons c h1 => cases h1 with
        | cons d h1 => exact .nil
        | nil => cases h2 with
          | nil => exact .nil
          | cons d h2 => cases h2 with
            | nil => exact .nil
            | cons e h2 => cases h2 with
              | cons f h2 => exact .nil
              | nil => exact .cons a (.cons b (.cons c (.cons rfl (.cons rfl (.cons e (.cons d .nil))))))
theorem gKey_inv {us ws : List Value} (h : (gKeyU us ws).length = 7) : ∃ x w f p q, us = [x, w, f] ∧ ws = [p, q] := by
  unfold gKeyU at h
  split at h
  · exact ⟨_, _, _, _, _, rfl, rfl⟩
  · cases h
theorem cons_of {us : List Value} {n : Nat} (h : us.length = n + 1) : ∃ a l, us = a :: l ∧ l.length = n := by
  cases us with
  | nil => cases h
  | cons a l => exact ⟨a, l, rfl, Nat.succ.inj h⟩
theorem all_mk {l : PySem.W.OpenLaw} {w : World} {K : PySem.W.Frag} {h : Heap} {mg : Str → Option Value} {fa f0 f1 f2 f3 f4 f5 f6 f7 f8 f9 f10 f11 f12 f13 f14 f15 f16 f17 f18 f19 f20 f21 f22 f23 f24 f25 f26 f27 f28 f29 f30 f31 d_SPANS C_Guest : Addr} (X : K.In h) (G : h.Ns mainGlobals mg) (hfa : mg "law" = some (.ref fa))
    {od0 od1 od2 od3 od4 od5 od6 od7 od8 od9 od10 od11 od12 od13 od14 od15 od16 od17 od18 od19 od20 od21 od22 od23 od24 od25 od26 od27 od28 od29 od30 od31 an0 an1 an2 an3 an4 an5 an6 an7 an8 an9 an10 an11 an12 an13 an14 an15 an16 an17 an18 an19 an20 an21 an22 an23 an24 an25 an26 an27 an28 an29 an30 an31 : Option Addr} {sl0 sl1 sl2 sl3 sl4 sl5 sl6 sl7 sl8 sl9 sl10 sl11 sl12 sl13 sl14 sl15 sl16 sl17 sl18 sl19 sl20 sl21 sl22 sl23 sl24 sl25 sl26 sl27 sl28 sl29 sl30 sl31 : Array (Option Value)} {oc0 oc1 oc2 oc3 oc4 oc5 oc6 oc7 oc8 oc9 oc10 oc11 oc12 oc13 oc14 oc15 oc16 oc17 oc18 oc19 oc20 oc21 oc22 oc23 oc24 oc25 oc26 oc27 oc28 oc29 oc30 oc31 kV0 kV1 kV2 kV3 kV4 kV5 kV6 kV7 kV8 kV9 kV10 kV11 kV12 kV13 kV14 kV15 kV16 kV17 kV18 kV19 kV20 kV21 kV22 kV23 kV24 kV25 kV26 kV27 kV28 kV29 kV30 kV31 dc0 dc1 dc2 dc3 dc4 dc5 dc6 dc7 dc8 dc9 dc10 dc11 dc12 dc13 dc14 dc15 dc16 dc17 dc18 dc19 dc20 dc21 dc22 dc23 dc24 dc25 dc26 dc27 dc28 dc29 dc30 dc31 pm0 pm1 pm2 pm3 pm4 pm5 pm6 pm7 pm8 pm9 pm10 pm11 pm12 pm13 pm14 pm15 pm16 pm17 pm18 pm19 pm20 pm21 pm22 pm23 pm24 pm25 pm26 pm27 pm28 pm29 pm30 pm31 cd0 cd1 cd2 cd3 cd4 cd5 cd6 cd7 cd8 cd9 cd10 cd11 cd12 cd13 cd14 cd15 cd16 cd17 cd18 cd19 cd20 cd21 cd22 cd23 cd24 cd25 cd26 cd27 cd28 cd29 cd30 cd31 ct0 ct1 ct2 ct3 ct4 ct5 ct6 ct7 ct8 ct9 ct10 ct11 ct12 ct13 ct14 ct15 ct16 ct17 ct18 ct19 ct20 ct21 ct22 ct23 ct24 ct25 ct26 ct27 ct28 ct29 ct30 ct31 : Value}
    {es_SPANS : Array DictEntry} {n_SPANS : Nat}
    (ca_Guest : PySem.W.nsIn K mainGlobals "Guest" = some (some (.ref C_Guest)))
    {dT18 : Addr} {dt18 : Option Addr} {dn18 : Nat} {dz18 : Array (Option Value)} {dk18_3 : Tok}
    (a0 : PySem.W.nsIn K mainGlobals "is_between" = some (some (.ref f0))) (l0 : K.lookup f0 = some ⟨oc0, od0, .func (PySem.W.fnOf "is_between" "is_between" (defArgs s_is_between) (defBody s_is_between) (defScope s_is_between) .none kV0 dc0 pm0 an0 cd0 ct0), sl0⟩) (c0 : PySem.W.codeIn K cd0 "is_between" = true) (k0 : PySem.W.keepIn K (.ref f0) = true)
    (a1 : PySem.W.nsIn K mainGlobals "fit" = some (some (.ref f1))) (l1 : K.lookup f1 = some ⟨oc1, od1, .func (PySem.W.fnOf "fit" "fit" (defArgs s_fit) (defBody s_fit) (defScope s_fit) .none kV1 dc1 pm1 an1 cd1 ct1), sl1⟩) (c1 : PySem.W.codeIn K cd1 "fit" = true) (k1 : PySem.W.keepIn K (.ref f1) = true)
    (a2 : PySem.W.nsIn K mainGlobals "signed" = some (some (.ref f2))) (l2 : K.lookup f2 = some ⟨oc2, od2, .func (PySem.W.fnOf "signed" "signed" (defArgs s_signed) (defBody s_signed) (defScope s_signed) .none kV2 dc2 pm2 an2 cd2 ct2), sl2⟩) (c2 : PySem.W.codeIn K cd2 "signed" = true) (k2 : PySem.W.keepIn K (.ref f2) = true)
    (a3 : PySem.W.nsIn K mainGlobals "is_over" = some (some (.ref f3))) (l3 : K.lookup f3 = some ⟨oc3, od3, .func (PySem.W.fnOf "is_over" "is_over" (defArgs s_is_over) (defBody s_is_over) (defScope s_is_over) .none kV3 dc3 pm3 an3 cd3 ct3), sl3⟩) (c3 : PySem.W.codeIn K cd3 "is_over" = true) (k3 : PySem.W.keepIn K (.ref f3) = true)
    (a4 : PySem.W.nsIn K mainGlobals "result_marks" = some (some (.ref f4))) (l4 : K.lookup f4 = some ⟨oc4, od4, .func (PySem.W.fnOf "result_marks" "result_marks" (defArgs s_result_marks) (defBody s_result_marks) (defScope s_result_marks) .none kV4 dc4 pm4 an4 cd4 ct4), sl4⟩) (c4 : PySem.W.codeIn K cd4 "result_marks" = true) (k4 : PySem.W.keepIn K (.ref f4) = true)
    (a5 : PySem.W.nsIn K mainGlobals "sum_marks" = some (some (.ref f5))) (l5 : K.lookup f5 = some ⟨oc5, od5, .func (PySem.W.fnOf "sum_marks" "sum_marks" (defArgs s_sum_marks) (defBody s_sum_marks) (defScope s_sum_marks) .none kV5 dc5 pm5 an5 cd5 ct5), sl5⟩) (c5 : PySem.W.codeIn K cd5 "sum_marks" = true) (k5 : PySem.W.keepIn K (.ref f5) = true)
    (a6 : PySem.W.nsIn K mainGlobals "less_marks" = some (some (.ref f6))) (l6 : K.lookup f6 = some ⟨oc6, od6, .func (PySem.W.fnOf "less_marks" "less_marks" (defArgs s_less_marks) (defBody s_less_marks) (defScope s_less_marks) .none kV6 dc6 pm6 an6 cd6 ct6), sl6⟩) (c6 : PySem.W.codeIn K cd6 "less_marks" = true) (k6 : PySem.W.keepIn K (.ref f6) = true)
    (a7 : PySem.W.nsIn K mainGlobals "bits_marks" = some (some (.ref f7))) (l7 : K.lookup f7 = some ⟨oc7, od7, .func (PySem.W.fnOf "bits_marks" "bits_marks" (defArgs s_bits_marks) (defBody s_bits_marks) (defScope s_bits_marks) .none kV7 dc7 pm7 an7 cd7 ct7), sl7⟩) (c7 : PySem.W.codeIn K cd7 "bits_marks" = true) (k7 : PySem.W.keepIn K (.ref f7) = true)
    (a8 : PySem.W.nsIn K mainGlobals "with_carry" = some (some (.ref f8))) (l8 : K.lookup f8 = some ⟨oc8, od8, .func (PySem.W.fnOf "with_carry" "with_carry" (defArgs s_with_carry) (defBody s_with_carry) (defScope s_with_carry) .none kV8 dc8 pm8 an8 cd8 ct8), sl8⟩) (c8 : PySem.W.codeIn K cd8 "with_carry" = true) (k8 : PySem.W.keepIn K (.ref f8) = true)
    (a9 : PySem.W.nsIn K mainGlobals "marks_of" = some (some (.ref f9))) (l9 : K.lookup f9 = some ⟨oc9, od9, .func (PySem.W.fnOf "marks_of" "marks_of" (defArgs s_marks_of) (defBody s_marks_of) (defScope s_marks_of) .none kV9 dc9 pm9 an9 cd9 ct9), sl9⟩) (c9 : PySem.W.codeIn K cd9 "marks_of" = true) (k9 : PySem.W.keepIn K (.ref f9) = true)
    (a10 : PySem.W.nsIn K mainGlobals "are_between" = some (some (.ref f10))) (l10 : K.lookup f10 = some ⟨oc10, od10, .func (PySem.W.fnOf "are_between" "are_between" (defArgs s_are_between) (defBody s_are_between) (defScope s_are_between) .none kV10 dc10 pm10 an10 cd10 ct10), sl10⟩) (c10 : PySem.W.codeIn K cd10 "are_between" = true) (k10 : PySem.W.keepIn K (.ref f10) = true)
    (a11 : PySem.W.nsIn K mainGlobals "is_width" = some (some (.ref f11))) (l11 : K.lookup f11 = some ⟨oc11, od11, .func (PySem.W.fnOf "is_width" "is_width" (defArgs s_is_width) (defBody s_is_width) (defScope s_is_width) .none kV11 dc11 pm11 an11 cd11 ct11), sl11⟩) (c11 : PySem.W.codeIn K cd11 "is_width" = true) (k11 : PySem.W.keepIn K (.ref f11) = true)
    (a12 : PySem.W.nsIn K mainGlobals "is_floor" = some (some (.ref f12))) (l12 : K.lookup f12 = some ⟨oc12, od12, .func (PySem.W.fnOf "is_floor" "is_floor" (defArgs s_is_floor) (defBody s_is_floor) (defScope s_is_floor) .none kV12 dc12 pm12 an12 cd12 ct12), sl12⟩) (c12 : PySem.W.codeIn K cd12 "is_floor" = true) (k12 : PySem.W.keepIn K (.ref f12) = true)
    (a13 : PySem.W.nsIn K mainGlobals "is_boxes" = some (some (.ref f13))) (l13 : K.lookup f13 = some ⟨oc13, od13, .func (PySem.W.fnOf "is_boxes" "is_boxes" (defArgs s_is_boxes) (defBody s_is_boxes) (defScope s_is_boxes) .none kV13 dc13 pm13 an13 cd13 ct13), sl13⟩) (c13 : PySem.W.codeIn K cd13 "is_boxes" = true) (k13 : PySem.W.keepIn K (.ref f13) = true)
    (a14 : PySem.W.nsIn K mainGlobals "is_marks" = some (some (.ref f14))) (l14 : K.lookup f14 = some ⟨oc14, od14, .func (PySem.W.fnOf "is_marks" "is_marks" (defArgs s_is_marks) (defBody s_is_marks) (defScope s_is_marks) .none kV14 dc14 pm14 an14 cd14 ct14), sl14⟩) (c14 : PySem.W.codeIn K cd14 "is_marks" = true) (k14 : PySem.W.keepIn K (.ref f14) = true)
    (a15 : PySem.W.nsIn K mainGlobals "is_wards" = some (some (.ref f15))) (l15 : K.lookup f15 = some ⟨oc15, od15, .func (PySem.W.fnOf "is_wards" "is_wards" (defArgs s_is_wards) (defBody s_is_wards) (defScope s_is_wards) .none kV15 dc15 pm15 an15 cd15 ct15), sl15⟩) (c15 : PySem.W.codeIn K cd15 "is_wards" = true) (k15 : PySem.W.keepIn K (.ref f15) = true)
    (a16 : PySem.W.nsIn K mainGlobals "check_guest" = some (some (.ref f16))) (l16 : K.lookup f16 = some ⟨oc16, od16, .func (PySem.W.fnOf "check_guest" "check_guest" (defArgs s_check_guest) (defBody s_check_guest) (defScope s_check_guest) .none kV16 dc16 pm16 an16 cd16 ct16), sl16⟩) (c16 : PySem.W.codeIn K cd16 "check_guest" = true) (k16 : PySem.W.keepIn K (.ref f16) = true)
    (a17 : PySem.W.nsIn K mainGlobals "record_of" = some (some (.ref f17))) (l17 : K.lookup f17 = some ⟨oc17, od17, .func (PySem.W.fnOf "record_of" "record_of" (defArgs s_record_of) (defBody s_record_of) (defScope s_record_of) .none kV17 dc17 pm17 an17 cd17 ct17), sl17⟩) (c17 : PySem.W.codeIn K cd17 "record_of" = true) (k17 : PySem.W.keepIn K (.ref f17) = true)
    (a18 : PySem.W.findIn K (.ref C_Guest) "__init__" = some (some (.ref f18))) (l18 : K.lookup f18 = some ⟨oc18, od18, .func (PySem.W.fnOf "__init__" "Guest.__init__" (defArgs s_Guest___init__) (defBody s_Guest___init__) (defScope s_Guest___init__) (.ref dT18) kV18 dc18 pm18 an18 cd18 ct18), sl18⟩) (c18 : PySem.W.codeIn K cd18 "Guest.__init__" = true) (k18 : PySem.W.keepIn K (.ref f18) = true)
    (dl18 : K.lookup dT18 = some ⟨.type "tuple", dt18, .seq #[.none, .none, .none, .int 0 dk18_3] dn18, dz18⟩)
    (a19 : PySem.W.findIn K (.ref C_Guest) "stand" = some (some (.ref f19))) (l19 : K.lookup f19 = some ⟨oc19, od19, .func (PySem.W.fnOf "stand" "Guest.stand" (defArgs s_Guest_stand) (defBody s_Guest_stand) (defScope s_Guest_stand) .none kV19 dc19 pm19 an19 cd19 ct19), sl19⟩) (c19 : PySem.W.codeIn K cd19 "Guest.stand" = true) (k19 : PySem.W.keepIn K (.ref f19) = true)
    (a20 : PySem.W.findIn K (.ref C_Guest) "is_ward" = some (some (.ref f20))) (l20 : K.lookup f20 = some ⟨oc20, od20, .func (PySem.W.fnOf "is_ward" "Guest.is_ward" (defArgs s_Guest_is_ward) (defBody s_Guest_is_ward) (defScope s_Guest_is_ward) .none kV20 dc20 pm20 an20 cd20 ct20), sl20⟩) (c20 : PySem.W.codeIn K cd20 "Guest.is_ward" = true) (k20 : PySem.W.keepIn K (.ref f20) = true)
    (a21 : PySem.W.findIn K (.ref C_Guest) "twin" = some (some (.ref f21))) (l21 : K.lookup f21 = some ⟨oc21, od21, .func (PySem.W.fnOf "twin" "Guest.twin" (defArgs s_Guest_twin) (defBody s_Guest_twin) (defScope s_Guest_twin) .none kV21 dc21 pm21 an21 cd21 ct21), sl21⟩) (c21 : PySem.W.codeIn K cd21 "Guest.twin" = true) (k21 : PySem.W.keepIn K (.ref f21) = true)
    (a22 : PySem.W.nsIn K mainGlobals "_law_cell_at" = some (some (.ref f22))) (l22 : K.lookup f22 = some ⟨oc22, od22, .func (PySem.W.fnOf "_law_cell_at" "_law_cell_at" (defArgs s__law_cell_at) (defBody s__law_cell_at) (defScope s__law_cell_at) .none kV22 dc22 pm22 an22 cd22 ct22), sl22⟩) (c22 : PySem.W.codeIn K cd22 "_law_cell_at" = true) (k22 : PySem.W.keepIn K (.ref f22) = true)
    (a23 : PySem.W.nsIn K mainGlobals "_law_mixed" = some (some (.ref f23))) (l23 : K.lookup f23 = some ⟨oc23, od23, .func (PySem.W.fnOf "_law_mixed" "_law_mixed" (defArgs s__law_mixed) (defBody s__law_mixed) (defScope s__law_mixed) .none kV23 dc23 pm23 an23 cd23 ct23), sl23⟩) (c23 : PySem.W.codeIn K cd23 "_law_mixed" = true) (k23 : PySem.W.keepIn K (.ref f23) = true)
    (a24 : PySem.W.nsIn K mainGlobals "_law_number" = some (some (.ref f24))) (l24 : K.lookup f24 = some ⟨oc24, od24, .func (PySem.W.fnOf "_law_number" "_law_number" (defArgs s__law_number) (defBody s__law_number) (defScope s__law_number) .none kV24 dc24 pm24 an24 cd24 ct24), sl24⟩) (c24 : PySem.W.codeIn K cd24 "_law_number" = true) (k24 : PySem.W.keepIn K (.ref f24) = true)
    (a25 : PySem.W.nsIn K mainGlobals "_law_code" = some (some (.ref f25))) (l25 : K.lookup f25 = some ⟨oc25, od25, .func (PySem.W.fnOf "_law_code" "_law_code" (defArgs s__law_code) (defBody s__law_code) (defScope s__law_code) .none kV25 dc25 pm25 an25 cd25 ct25), sl25⟩) (c25 : PySem.W.codeIn K cd25 "_law_code" = true) (k25 : PySem.W.keepIn K (.ref f25) = true)
    (a26 : PySem.W.nsIn K mainGlobals "_law_floor" = some (some (.ref f26))) (l26 : K.lookup f26 = some ⟨oc26, od26, .func (PySem.W.fnOf "_law_floor" "_law_floor" (defArgs s__law_floor) (defBody s__law_floor) (defScope s__law_floor) .none kV26 dc26 pm26 an26 cd26 ct26), sl26⟩) (c26 : PySem.W.codeIn K cd26 "_law_floor" = true) (k26 : PySem.W.keepIn K (.ref f26) = true)
    (a27 : PySem.W.nsIn K mainGlobals "_law_case" = some (some (.ref f27))) (l27 : K.lookup f27 = some ⟨oc27, od27, .func (PySem.W.fnOf "_law_case" "_law_case" (defArgs s__law_case) (defBody s__law_case) (defScope s__law_case) .none kV27 dc27 pm27 an27 cd27 ct27), sl27⟩) (c27 : PySem.W.codeIn K cd27 "_law_case" = true) (k27 : PySem.W.keepIn K (.ref f27) = true)
    (a28 : PySem.W.nsIn K mainGlobals "_law_made" = some (some (.ref f28))) (l28 : K.lookup f28 = some ⟨oc28, od28, .func (PySem.W.fnOf "_law_made" "_law_made" (defArgs s__law_made) (defBody s__law_made) (defScope s__law_made) .none kV28 dc28 pm28 an28 cd28 ct28), sl28⟩) (c28 : PySem.W.codeIn K cd28 "_law_made" = true) (k28 : PySem.W.keepIn K (.ref f28) = true)
    (a29 : PySem.W.nsIn K mainGlobals "_law_due" = some (some (.ref f29))) (l29 : K.lookup f29 = some ⟨oc29, od29, .func (PySem.W.fnOf "_law_due" "_law_due" (defArgs s__law_due) (defBody s__law_due) (defScope s__law_due) .none kV29 dc29 pm29 an29 cd29 ct29), sl29⟩) (c29 : PySem.W.codeIn K cd29 "_law_due" = true) (k29 : PySem.W.keepIn K (.ref f29) = true)
    (a30 : PySem.W.nsIn K mainGlobals "_law_right" = some (some (.ref f30))) (l30 : K.lookup f30 = some ⟨oc30, od30, .func (PySem.W.fnOf "_law_right" "_law_right" (defArgs s__law_right) (defBody s__law_right) (defScope s__law_right) .none kV30 dc30 pm30 an30 cd30 ct30), sl30⟩) (c30 : PySem.W.codeIn K cd30 "_law_right" = true) (k30 : PySem.W.keepIn K (.ref f30) = true)
    (a31 : PySem.W.nsIn K mainGlobals "law" = some (some (.ref f31))) (l31 : K.lookup f31 = some ⟨oc31, od31, .func (PySem.W.fnOf "law" "law" (defArgs s_law) (defBody s_law) (defScope s_law) .none kV31 dc31 pm31 an31 cd31 ct31), sl31⟩) (c31 : PySem.W.codeIn K cd31 "law" = true) (k31 : PySem.W.keepIn K (.ref f31) = true)
    (da_SPANS : PySem.W.nsIn K mainGlobals "SPANS" = some (some (.ref d_SPANS))) (dl_SPANS : K.lookup d_SPANS = some ⟨.type "dict", none, .dict es_SPANS n_SPANS, #[]⟩) (de_SPANS : EntOk w es_SPANS.toList spans)
    (z_len : PySem.W.nsIn K mainGlobals "len" = some none)
    (z_isinstance : PySem.W.nsIn K mainGlobals "isinstance" = some none)
    (z_int : PySem.W.nsIn K mainGlobals "int" = some none)
    (z_bool : PySem.W.nsIn K mainGlobals "bool" = some none)
    (z_list : PySem.W.nsIn K mainGlobals "list" = some none)
    (z_tuple : PySem.W.nsIn K mainGlobals "tuple" = some none)
    (z_all : PySem.W.nsIn K mainGlobals "all" = some none)
    (z_range : PySem.W.nsIn K mainGlobals "range" = some none)
    (z_sorted : PySem.W.nsIn K mainGlobals "sorted" = some none)
    (z_set : PySem.W.nsIn K mainGlobals "set" = some none)
    (cb_Guest : clsOkB K C_Guest [("__init__", f18), ("stand", f19), ("is_ward", f20), ("twin", f21)] ["width", "floor", "boxes", "record", "wards", "place", "sent", "done"] = true)
    (sm_SPANS : (d_SPANS == sysModules) = false)
    : ∃ fd : FuncData, (∀ (s : Shared) (v : Value), BindsTo s fd ⟨[v], []⟩ [("_law_script", v)]) ∧ ∀ base : Heap, K.In base → base.Ns mainGlobals mg → FnOk l.prog w K mg base CX0 8 fa fd ["_law_script"] (spLaw K) := by
  have e := hfa.symm.trans (PySem.W.mg_of X G a31)
  cases e
  have B : Bls mg := ⟨PySem.W.mg_none_of X G z_len, PySem.W.mg_none_of X G z_isinstance, PySem.W.mg_none_of X G z_int, PySem.W.mg_none_of X G z_bool, PySem.W.mg_none_of X G z_list, PySem.W.mg_none_of X G z_tuple, PySem.W.mg_none_of X G z_all, PySem.W.mg_none_of X G z_range, PySem.W.mg_none_of X G z_sorted, PySem.W.mg_none_of X G z_set⟩
  have F0 := fun_mk (st := s_is_between) l0 c0 k0
  have F_is_between := F0
  have F1 := fun_mk (st := s_fit) l1 c1 k1
  have F_fit := F1
  have F2 := fun_mk (st := s_signed) l2 c2 k2
  have F_signed := F2
  have F3 := fun_mk (st := s_is_over) l3 c3 k3
  have F_is_over := F3
  have F4 := fun_mk (st := s_result_marks) l4 c4 k4
  have F_result_marks := F4
  have F5 := fun_mk (st := s_sum_marks) l5 c5 k5
  have F_sum_marks := F5
  have F6 := fun_mk (st := s_less_marks) l6 c6 k6
  have F_less_marks := F6
  have F7 := fun_mk (st := s_bits_marks) l7 c7 k7
  have F_bits_marks := F7
  have F8 := fun_mk (st := s_with_carry) l8 c8 k8
  have F_with_carry := F8
  have F9 := fun_mk (st := s_marks_of) l9 c9 k9
  have F_marks_of := F9
  have F10 := fun_mk (st := s_are_between) l10 c10 k10
  have F_are_between := F10
  have F11 := fun_mk (st := s_is_width) l11 c11 k11
  have F_is_width := F11
  have F12 := fun_mk (st := s_is_floor) l12 c12 k12
  have F_is_floor := F12
  have F13 := fun_mk (st := s_is_boxes) l13 c13 k13
  have F_is_boxes := F13
  have F14 := fun_mk (st := s_is_marks) l14 c14 k14
  have F_is_marks := F14
  have F15 := fun_mk (st := s_is_wards) l15 c15 k15
  have F_is_wards := F15
  have F16 := fun_mk (st := s_check_guest) l16 c16 k16
  have F_check_guest := F16
  have F17 := fun_mk (st := s_record_of) l17 c17 k17
  have F_record_of := F17
  have F18 := fund_mk (st := s_Guest___init__) l18 c18 k18 dl18
  have F_Guest___init__ := F18
  have F19 := fun_mk (st := s_Guest_stand) l19 c19 k19
  have F_Guest_stand := F19
  have F20 := fun_mk (st := s_Guest_is_ward) l20 c20 k20
  have F_Guest_is_ward := F20
  have F21 := fun_mk (st := s_Guest_twin) l21 c21 k21
  have F_Guest_twin := F21
  have F22 := fun_mk (st := s__law_cell_at) l22 c22 k22
  have F__law_cell_at := F22
  have F23 := fun_mk (st := s__law_mixed) l23 c23 k23
  have F__law_mixed := F23
  have F24 := fun_mk (st := s__law_number) l24 c24 k24
  have F__law_number := F24
  have F25 := fun_mk (st := s__law_code) l25 c25 k25
  have F__law_code := F25
  have F26 := fun_mk (st := s__law_floor) l26 c26 k26
  have F__law_floor := F26
  have F27 := fun_mk (st := s__law_case) l27 c27 k27
  have F__law_case := F27
  have F28 := fun_mk (st := s__law_made) l28 c28 k28
  have F__law_made := F28
  have F29 := fun_mk (st := s__law_due) l29 c29 k29
  have F__law_due := F29
  have F30 := fun_mk (st := s__law_right) l30 c30 k30
  have F__law_right := F30
  have F31 := fun_mk (st := s_law) l31 c31 k31
  have F_law := F31
  refine ⟨PySem.W.fnOf "law" "law" (defArgs s_law) (defBody s_law) (defScope s_law) .none kV31 dc31 pm31 an31 cd31 ct31, fun s v => .of_eq rfl, fun base kb gb => ?_⟩
  have M_SPANS := PySem.W.mg_of X G da_SPANS
  have tb_SPANS : TabK l.prog w K d_SPANS spans := TabK.of dl_SPANS de_SPANS (by decide)
  have M_Guest := PySem.W.mg_of X G ca_Guest
  have X_Guest := ClsOk.of cb_Guest
  have c_is_between := calOf (P := l.prog) (w := w) (base := base) (ok_is_between F0 B) (PySem.W.mg_of X G a0) k0 (F0.binds (ps := ["thing", "least", "greatest"]) (fun _ _ _ _ _ _ us hl => by obtain ⟨_, us, rfl, h0⟩ := cons_of hl; obtain ⟨_, us, rfl, h1⟩ := cons_of h0; obtain ⟨_, us, rfl, h2⟩ := cons_of h1; obtain rfl := List.eq_nil_of_length_eq_zero h2; rfl))
  have c_fit := calOf (P := l.prog) (w := w) (base := base) (ok_fit F1 M_SPANS tb_SPANS) (PySem.W.mg_of X G a1) k1 (F1.binds (ps := ["width", "number"]) (fun _ _ _ _ _ _ us hl => by obtain ⟨_, us, rfl, h0⟩ := cons_of hl; obtain ⟨_, us, rfl, h1⟩ := cons_of h0; obtain rfl := List.eq_nil_of_length_eq_zero h1; rfl))
  have c_signed := calOf (P := l.prog) (w := w) (base := base) (ok_signed F2 M_SPANS tb_SPANS) (PySem.W.mg_of X G a2) k2 (F2.binds (ps := ["width", "number"]) (fun _ _ _ _ _ _ us hl => by obtain ⟨_, us, rfl, h0⟩ := cons_of hl; obtain ⟨_, us, rfl, h1⟩ := cons_of h0; obtain rfl := List.eq_nil_of_length_eq_zero h1; rfl))
  have c_is_over := calOf (P := l.prog) (w := w) (base := base) (ok_is_over F3 M_SPANS tb_SPANS) (PySem.W.mg_of X G a3) k3 (F3.binds (ps := ["width", "number"]) (fun _ _ _ _ _ _ us hl => by obtain ⟨_, us, rfl, h0⟩ := cons_of hl; obtain ⟨_, us, rfl, h1⟩ := cons_of h0; obtain rfl := List.eq_nil_of_length_eq_zero h1; rfl))
  have c_result_marks := calOf (P := l.prog) (w := w) (base := base) (ok_result_marks F4 M_SPANS tb_SPANS c_fit) (PySem.W.mg_of X G a4) k4 (F4.binds (ps := ["width", "result", "carry", "over"]) (fun _ _ _ _ _ _ us hl => by obtain ⟨_, us, rfl, h0⟩ := cons_of hl; obtain ⟨_, us, rfl, h1⟩ := cons_of h0; obtain ⟨_, us, rfl, h2⟩ := cons_of h1; obtain ⟨_, us, rfl, h3⟩ := cons_of h2; obtain rfl := List.eq_nil_of_length_eq_zero h3; rfl))
  have c_sum_marks := calOf (P := l.prog) (w := w) (base := base) (ok_sum_marks F5 M_SPANS tb_SPANS c_signed c_is_over c_result_marks) (PySem.W.mg_of X G a5) k5 (F5.binds (ps := ["width", "a", "b", "k"]) (fun _ _ _ _ _ _ us hl => by obtain ⟨_, us, rfl, h0⟩ := cons_of hl; obtain ⟨_, us, rfl, h1⟩ := cons_of h0; obtain ⟨_, us, rfl, h2⟩ := cons_of h1; obtain ⟨_, us, rfl, h3⟩ := cons_of h2; obtain rfl := List.eq_nil_of_length_eq_zero h3; rfl))
  have c_less_marks := calOf (P := l.prog) (w := w) (base := base) (ok_less_marks F6 c_signed c_is_over c_result_marks) (PySem.W.mg_of X G a6) k6 (F6.binds (ps := ["width", "a", "b", "k"]) (fun _ _ _ _ _ _ us hl => by obtain ⟨_, us, rfl, h0⟩ := cons_of hl; obtain ⟨_, us, rfl, h1⟩ := cons_of h0; obtain ⟨_, us, rfl, h2⟩ := cons_of h1; obtain ⟨_, us, rfl, h3⟩ := cons_of h2; obtain rfl := List.eq_nil_of_length_eq_zero h3; rfl))
  have c_bits_marks := calOf (P := l.prog) (w := w) (base := base) (ok_bits_marks F7 ) (PySem.W.mg_of X G a7) k7 (F7.binds (ps := ["a"]) (fun _ _ _ _ _ _ us hl => by obtain ⟨_, us, rfl, h0⟩ := cons_of hl; obtain rfl := List.eq_nil_of_length_eq_zero h0; rfl))
  have c_with_carry := calOf (P := l.prog) (w := w) (base := base) (ok_with_carry F8 ) (PySem.W.mg_of X G a8) k8 (F8.binds (ps := ["marks", "carry"]) (fun _ _ _ _ _ _ us hl => by obtain ⟨_, us, rfl, h0⟩ := cons_of hl; obtain ⟨_, us, rfl, h1⟩ := cons_of h0; obtain rfl := List.eq_nil_of_length_eq_zero h1; rfl))
  have c_marks_of := calOf (P := l.prog) (w := w) (base := base) (ok_marks_of F9 M_SPANS tb_SPANS c_bits_marks c_sum_marks c_less_marks c_result_marks c_with_carry) (PySem.W.mg_of X G a9) k9 (F9.binds (ps := ["width", "record"]) (fun _ _ _ _ _ _ us hl => by obtain ⟨_, us, rfl, h0⟩ := cons_of hl; obtain ⟨_, us, rfl, h1⟩ := cons_of h0; obtain rfl := List.eq_nil_of_length_eq_zero h1; rfl))
  have c_are_between := calOf (P := l.prog) (w := w) (base := base) (ok_are_between F10 B c_is_between) (PySem.W.mg_of X G a10) k10 (F10.binds (ps := ["things", "least", "greatest"]) (fun _ _ _ _ _ _ us hl => by obtain ⟨_, us, rfl, h0⟩ := cons_of hl; obtain ⟨_, us, rfl, h1⟩ := cons_of h0; obtain ⟨_, us, rfl, h2⟩ := cons_of h1; obtain rfl := List.eq_nil_of_length_eq_zero h2; rfl))
  have c_is_width := calOf (P := l.prog) (w := w) (base := base) (ok_is_width F11 M_SPANS tb_SPANS sm_SPANS c_is_between) (PySem.W.mg_of X G a11) k11 (F11.binds (ps := ["width"]) (fun _ _ _ _ _ _ us hl => by obtain ⟨_, us, rfl, h0⟩ := cons_of hl; obtain rfl := List.eq_nil_of_length_eq_zero h0; rfl))
  have c_is_floor := calOf (P := l.prog) (w := w) (base := base) (ok_is_floor F12 B c_are_between) (PySem.W.mg_of X G a12) k12 (F12.binds (ps := ["floor"]) (fun _ _ _ _ _ _ us hl => by obtain ⟨_, us, rfl, h0⟩ := cons_of hl; obtain rfl := List.eq_nil_of_length_eq_zero h0; rfl))
  have c_is_boxes := calOf (P := l.prog) (w := w) (base := base) (ok_is_boxes F13 M_SPANS tb_SPANS B c_are_between) (PySem.W.mg_of X G a13) k13 (F13.binds (ps := ["width", "boxes"]) (fun _ _ _ _ _ _ us hl => by obtain ⟨_, us, rfl, h0⟩ := cons_of hl; obtain ⟨_, us, rfl, h1⟩ := cons_of h0; obtain rfl := List.eq_nil_of_length_eq_zero h1; rfl))
  have c_is_marks := calOf (P := l.prog) (w := w) (base := base) (ok_is_marks F14 B c_are_between) (PySem.W.mg_of X G a14) k14 (F14.binds (ps := ["marks"]) (fun _ _ _ _ _ _ us hl => by obtain ⟨_, us, rfl, h0⟩ := cons_of hl; obtain rfl := List.eq_nil_of_length_eq_zero h0; rfl))
  have c_is_wards := calOf (P := l.prog) (w := w) (base := base) (ok_is_wards F15 B c_are_between) (PySem.W.mg_of X G a15) k15 (F15.binds (ps := ["wards"]) (fun _ _ _ _ _ _ us hl => by obtain ⟨_, us, rfl, h0⟩ := cons_of hl; obtain rfl := List.eq_nil_of_length_eq_zero h0; rfl))
  have c_check_guest := calOf (P := l.prog) (w := w) (base := base) (ok_check_guest F16 c_is_between c_is_width c_is_floor c_is_boxes c_is_marks c_is_wards) (PySem.W.mg_of X G a16) k16 (F16.binds (ps := ["width", "floor", "boxes", "marks", "wards", "place"]) (fun _ _ _ _ _ _ us hl => by obtain ⟨_, us, rfl, h0⟩ := cons_of hl; obtain ⟨_, us, rfl, h1⟩ := cons_of h0; obtain ⟨_, us, rfl, h2⟩ := cons_of h1; obtain ⟨_, us, rfl, h3⟩ := cons_of h2; obtain ⟨_, us, rfl, h4⟩ := cons_of h3; obtain ⟨_, us, rfl, h5⟩ := cons_of h4; obtain rfl := List.eq_nil_of_length_eq_zero h5; rfl))
  have c_record_of := calOf (P := l.prog) (w := w) (base := base) (ok_record_of F17 ) (PySem.W.mg_of X G a17) k17 (F17.binds (ps := ["marks"]) (fun _ _ _ _ _ _ us hl => by obtain ⟨_, us, rfl, h0⟩ := cons_of hl; obtain rfl := List.eq_nil_of_length_eq_zero h0; rfl))
  have na : ∀ f ∈ gfs, NoAttr K C_Guest f := fun f hf => X_Guest.na f hf
  have o_Guest___init__ := ok_Guest___init__ (P := l.prog) (w := w) (mg := mg) (base := base) F18 B X_Guest.ins.cl na c_check_guest c_record_of
  have b_Guest___init__ := F18.binds (ps := ["self", "width", "floor", "boxes", "marks", "wards", "place"]) (d2 := []) (fun _ _ _ _ _ _ _ us hl => by rw [List.append_nil] at hl ⊢; obtain ⟨_, us, rfl, h0⟩ := cons_of hl; obtain ⟨_, us, rfl, h1⟩ := cons_of h0; obtain ⟨_, us, rfl, h2⟩ := cons_of h1; obtain ⟨_, us, rfl, h3⟩ := cons_of h2; obtain ⟨_, us, rfl, h4⟩ := cons_of h3; obtain ⟨_, us, rfl, h5⟩ := cons_of h4; obtain ⟨_, us, rfl, h6⟩ := cons_of h5; obtain rfl := List.eq_nil_of_length_eq_zero h6; exact ⟨_, rfl, rfl⟩)
  have c_Guest : KCal l.prog w K mg base "Guest" C_Guest 5 (sp_ginit K C_Guest) := ⟨_, _, _, X_Guest.made (by simp), o_Guest___init__, M_Guest, b_Guest___init__⟩
  have d4_Guest : KCalD l.prog w K mg base "Guest" C_Guest 5 (sp_ginit K C_Guest) [.non, .non, .non, .int 0] := ⟨_, _, _, _, X_Guest.made (by simp), o_Guest___init__, M_Guest, F_Guest___init__.binds (ps := ["self", "width", "floor", "boxes", "marks", "wards", "place"]) (d2 := [.none, .none, .none, .int 0 dk18_3]) (fun _ _ _ _ _ _ _ us hl => by replace hl : us.length = 3 := (by simpa using hl); obtain ⟨_, us, rfl, h0⟩ := cons_of hl; obtain ⟨_, us, rfl, h1⟩ := cons_of h0; obtain ⟨_, us, rfl, h2⟩ := cons_of h1; obtain rfl := List.eq_nil_of_length_eq_zero h2; exact ⟨_, rfl, rfl⟩), (by repeat' (first | exact rfl | exact ⟨_, rfl⟩ | exact Paired.nil | refine Paired.cons ?_ ?_))⟩
  have d3_Guest : KCalD l.prog w K mg base "Guest" C_Guest 5 (sp_ginit K C_Guest) [.non, .non, .int 0] := ⟨_, _, _, _, X_Guest.made (by simp), o_Guest___init__, M_Guest, F_Guest___init__.binds (ps := ["self", "width", "floor", "boxes", "marks", "wards", "place"]) (d2 := [.none, .none, .int 0 dk18_3]) (fun _ _ _ _ _ _ _ us hl => by replace hl : us.length = 4 := (by simpa using hl); obtain ⟨_, us, rfl, h0⟩ := cons_of hl; obtain ⟨_, us, rfl, h1⟩ := cons_of h0; obtain ⟨_, us, rfl, h2⟩ := cons_of h1; obtain ⟨_, us, rfl, h3⟩ := cons_of h2; obtain rfl := List.eq_nil_of_length_eq_zero h3; exact ⟨_, rfl, rfl⟩), (by repeat' (first | exact rfl | exact ⟨_, rfl⟩ | exact Paired.nil | refine Paired.cons ?_ ?_))⟩
  have d2_Guest : KCalD l.prog w K mg base "Guest" C_Guest 5 (sp_ginit K C_Guest) [.non, .int 0] := ⟨_, _, _, _, X_Guest.made (by simp), o_Guest___init__, M_Guest, F_Guest___init__.binds (ps := ["self", "width", "floor", "boxes", "marks", "wards", "place"]) (d2 := [.none, .int 0 dk18_3]) (fun _ _ _ _ _ _ _ us hl => by replace hl : us.length = 5 := (by simpa using hl); obtain ⟨_, us, rfl, h0⟩ := cons_of hl; obtain ⟨_, us, rfl, h1⟩ := cons_of h0; obtain ⟨_, us, rfl, h2⟩ := cons_of h1; obtain ⟨_, us, rfl, h3⟩ := cons_of h2; obtain ⟨_, us, rfl, h4⟩ := cons_of h3; obtain rfl := List.eq_nil_of_length_eq_zero h4; exact ⟨_, rfl, rfl⟩), (by repeat' (first | exact rfl | exact ⟨_, rfl⟩ | exact Paired.nil | refine Paired.cons ?_ ?_))⟩
  have k_Guest : KCalK l.prog w K mg base "Guest" C_Guest 5 (sp_ginit K C_Guest) ["place", "wards"] gKey := ⟨_, _, _, gKeyU, X_Guest.made (by simp), o_Guest___init__, M_Guest, F_Guest___init__.kbinds (ps := ["self", "width", "floor", "boxes", "marks", "wards", "place"]) (fun a b => gKey_rel a b) (fun _ _ _ _ _ _ _ us ws hl => by obtain ⟨_, _, _, _, _, rfl, rfl⟩ := gKey_inv hl; exact ⟨_, rfl, rfl⟩)⟩
  have o_Guest_stand := ok_Guest_stand (P := l.prog) (w := w) (mg := mg) (base := base) F19 B X_Guest.ins.cl na c_marks_of
  have b_Guest_stand := F19.binds (ps := ["self"]) (fun _ _ _ _ _ _ us hl => by obtain ⟨_, us, rfl, h0⟩ := cons_of hl; obtain rfl := List.eq_nil_of_length_eq_zero h0; rfl)
  have o_Guest_is_ward := ok_Guest_is_ward (P := l.prog) (w := w) (mg := mg) (base := base) F20 X_Guest.ins.cl na
  have b_Guest_is_ward := F20.binds (ps := ["self", "address"]) (fun _ _ _ _ _ _ us hl => by obtain ⟨_, us, rfl, h0⟩ := cons_of hl; obtain ⟨_, us, rfl, h1⟩ := cons_of h0; obtain rfl := List.eq_nil_of_length_eq_zero h1; rfl)
  have o_Guest_twin := ok_Guest_twin (P := l.prog) (w := w) (mg := mg) (base := base) F21 B X_Guest.ins.cl na c_Guest
  have b_Guest_twin := F21.binds (ps := ["self"]) (fun _ _ _ _ _ _ us hl => by obtain ⟨_, us, rfl, h0⟩ := cons_of hl; obtain rfl := List.eq_nil_of_length_eq_zero h0; rfl)
  have mS : MCal l.prog w K mg base C_Guest "stand" 5 (sp_stand K C_Guest) := ⟨X_Guest.ins.cl, _, _, _, o_Guest_stand, X_Guest.me ("stand", _) (by simp), b_Guest_stand⟩
  have mW : MCal l.prog w K mg base C_Guest "is_ward" 1 (sp_ward K C_Guest) := ⟨X_Guest.ins.cl, _, _, _, o_Guest_is_ward, X_Guest.me ("is_ward", _) (by simp), b_Guest_is_ward⟩
  have mT : MCal l.prog w K mg base C_Guest "twin" 7 (sp_twin K C_Guest) := ⟨X_Guest.ins.cl, _, _, _, o_Guest_twin, X_Guest.me ("twin", _) (by simp), b_Guest_twin⟩
  have c__law_cell_at := calOf (P := l.prog) (w := w) (base := base) (ok__law_cell_at F22 B) (PySem.W.mg_of X G a22) k22 (F22.binds (ps := ["_law_script", "_law_k"]) (fun _ _ _ _ _ _ us hl => by obtain ⟨_, us, rfl, h0⟩ := cons_of hl; obtain ⟨_, us, rfl, h1⟩ := cons_of h0; obtain rfl := List.eq_nil_of_length_eq_zero h1; rfl))
  have c__law_mixed := calOf (P := l.prog) (w := w) (base := base) (ok__law_mixed F23 ) (PySem.W.mg_of X G a23) k23 (F23.binds (ps := ["_law_cell", "_law_k"]) (fun _ _ _ _ _ _ us hl => by obtain ⟨_, us, rfl, h0⟩ := cons_of hl; obtain ⟨_, us, rfl, h1⟩ := cons_of h0; obtain rfl := List.eq_nil_of_length_eq_zero h1; rfl))
  have c__law_number := calOf (P := l.prog) (w := w) (base := base) (ok__law_number F24 c__law_mixed) (PySem.W.mg_of X G a24) k24 (F24.binds (ps := ["_law_width", "_law_cell", "_law_k"]) (fun _ _ _ _ _ _ us hl => by obtain ⟨_, us, rfl, h0⟩ := cons_of hl; obtain ⟨_, us, rfl, h1⟩ := cons_of h0; obtain ⟨_, us, rfl, h2⟩ := cons_of h1; obtain rfl := List.eq_nil_of_length_eq_zero h2; rfl))
  have c__law_code := calOf (P := l.prog) (w := w) (base := base) (ok__law_code F25 B c__law_mixed c__law_number) (PySem.W.mg_of X G a25) k25 (F25.binds (ps := ["_law_width", "_law_cell", "_law_k"]) (fun _ _ _ _ _ _ us hl => by obtain ⟨_, us, rfl, h0⟩ := cons_of hl; obtain ⟨_, us, rfl, h1⟩ := cons_of h0; obtain ⟨_, us, rfl, h2⟩ := cons_of h1; obtain rfl := List.eq_nil_of_length_eq_zero h2; rfl))
  have c__law_floor := calOf (P := l.prog) (w := w) (base := base) (ok__law_floor F26 B c__law_cell_at c__law_mixed c__law_code) (PySem.W.mg_of X G a26) k26 (F26.binds (ps := ["_law_script", "_law_width"]) (fun _ _ _ _ _ _ us hl => by obtain ⟨_, us, rfl, h0⟩ := cons_of hl; obtain ⟨_, us, rfl, h1⟩ := cons_of h0; obtain rfl := List.eq_nil_of_length_eq_zero h1; rfl))
  have c__law_case := calOf (P := l.prog) (w := w) (base := base) (ok__law_case F27 B c__law_cell_at c__law_mixed c__law_number c__law_floor) (PySem.W.mg_of X G a27) k27 (F27.binds (ps := ["_law_script"]) (fun _ _ _ _ _ _ us hl => by obtain ⟨_, us, rfl, h0⟩ := cons_of hl; obtain rfl := List.eq_nil_of_length_eq_zero h0; rfl))
  have c__law_made := calOf (P := l.prog) (w := w) (base := base) (ok__law_made F28 B c_Guest d4_Guest d3_Guest d2_Guest k_Guest) (PySem.W.mg_of X G a28) k28 (F28.binds (ps := ["_law_case_here", "_law_way"]) (fun _ _ _ _ _ _ us hl => by obtain ⟨_, us, rfl, h0⟩ := cons_of hl; obtain ⟨_, us, rfl, h1⟩ := cons_of h0; obtain rfl := List.eq_nil_of_length_eq_zero h1; rfl))
  have c__law_due := calOf (P := l.prog) (w := w) (base := base) (ok__law_due F29 ) (PySem.W.mg_of X G a29) k29 (F29.binds (ps := ["_law_case_here", "_law_way"]) (fun _ _ _ _ _ _ us hl => by obtain ⟨_, us, rfl, h0⟩ := cons_of hl; obtain ⟨_, us, rfl, h1⟩ := cons_of h0; obtain rfl := List.eq_nil_of_length_eq_zero h1; rfl))
  have c__law_right := calOf (P := l.prog) (w := w) (base := base) (ok__law_right F30 B X_Guest.ins.cl na c__law_due mS mW) (PySem.W.mg_of X G a30) k30 (F30.binds (ps := ["_law_guest", "_law_case_here", "_law_way"]) (fun _ _ _ _ _ _ us hl => by obtain ⟨_, us, rfl, h0⟩ := cons_of hl; obtain ⟨_, us, rfl, h1⟩ := cons_of h0; obtain ⟨_, us, rfl, h2⟩ := cons_of h1; obtain rfl := List.eq_nil_of_length_eq_zero h2; rfl))
  exact ok_law F31 B X_Guest.ins.cl na c__law_cell_at c__law_case c__law_made c__law_right mS mT
theorem walk {l : PySem.W.OpenLaw} {q : Program} {loose : List Str} {XP : (Str → Option Value) → Heap → Prop} {YP : World → Heap → Prop} {d : DefRec} {K : Params → PySem.W.Frag} (hn : l.most = some 63) (hdf : d.params.defaults = [])
    (hY : ∀ (w : World) (h : Heap), YP w h → (K w.params).In h)
    (F : ∀ (w : World) (mg : Str → Option Value) (fa : Addr) (h : Heap), (K w.params).In h → h.Ns mainGlobals mg → mg d.name = some (.ref fa) →
      ∃ fd : FuncData, (∀ (s : Shared) (u : Value), BindsTo s fd ⟨[u], []⟩ [("_law_script", u)]) ∧ ∀ base : Heap, (K w.params).In base → base.Ns mainGlobals mg → FnOk l.prog w (K w.params) mg base CX0 8 fa fd ["_law_script"] (spLaw (K w.params))) :
    PySem.W.WalkO q loose XP YP l.row.toRowW d [] (fun f vs => PySem.call f vs) :=
  L2.walk_of (n := 63) (k := 8) (x := "_law_script") (CX := fun _ => CX0) (sp := fun w => spLaw (K w.params)) hn (by decide) hdf ⟨rfl, by decide, by decide⟩ hY F (fun _ _ a ns hl _ hS => ⟨a, ns, rfl, hS, hl, fun _ => rfl⟩) fun _ _ _ _ _ z => z
end K21
open PySem PySem.W PyProof.Rows
set_option maxRecDepth 100000 in
set_option maxHeartbeats 0 in
theorem PySem.Challenge.cw_hostturn_k21_guests_holds : PySem.Challenge.rw_hostturn_k21_guests.Holds := by
  w_on; o_law; k_head; (case hw => w_witness2)
  k_fill
  refine K21.walk (l := PySem.Challenge.rw_hostturn_k21_guests) rfl rfl (fun w h Y => PySem.W.kIn_of Y) ?F
  case F =>
    intro w mg fa h KX G hmg
    refine' K21.all_mk KX G hmg ?ca_Guest ?a0 ?l0 ?c0 ?k0 ?a1 ?l1 ?c1 ?k1 ?a2 ?l2 ?c2 ?k2 ?a3 ?l3 ?c3 ?k3 ?a4 ?l4 ?c4 ?k4 ?a5 ?l5 ?c5 ?k5 ?a6 ?l6 ?c6 ?k6 ?a7 ?l7 ?c7 ?k7 ?a8 ?l8 ?c8 ?k8 ?a9 ?l9 ?c9 ?k9 ?a10 ?l10 ?c10 ?k10 ?a11 ?l11 ?c11 ?k11 ?a12 ?l12 ?c12 ?k12 ?a13 ?l13 ?c13 ?k13 ?a14 ?l14 ?c14 ?k14 ?a15 ?l15 ?c15 ?k15 ?a16 ?l16 ?c16 ?k16 ?a17 ?l17 ?c17 ?k17 ?a18 ?l18 ?c18 ?k18 ?dl18 ?a19 ?l19 ?c19 ?k19 ?a20 ?l20 ?c20 ?k20 ?a21 ?l21 ?c21 ?k21 ?a22 ?l22 ?c22 ?k22 ?a23 ?l23 ?c23 ?k23 ?a24 ?l24 ?c24 ?k24 ?a25 ?l25 ?c25 ?k25 ?a26 ?l26 ?c26 ?k26 ?a27 ?l27 ?c27 ?k27 ?a28 ?l28 ?c28 ?k28 ?a29 ?l29 ?c29 ?k29 ?a30 ?l30 ?c30 ?k30 ?a31 ?l31 ?c31 ?k31 ?da_SPANS ?dl_SPANS ?de_SPANS ?z_len ?z_isinstance ?z_int ?z_bool ?z_list ?z_tuple ?z_all ?z_range ?z_sorted ?z_set ?cb_Guest ?sm_SPANS
    (case ca_Guest => k_is)
    (case a0 => k_is)
    (case l0 => k_is)
    (case c0 => k_is)
    (case k0 => k_is)
    (case a1 => k_is)
    (case l1 => k_is)
    (case c1 => k_is)
    (case k1 => k_is)
    (case a2 => k_is)
    (case l2 => k_is)
    (case c2 => k_is)
    (case k2 => k_is)
    (case a3 => k_is)
    (case l3 => k_is)
    (case c3 => k_is)
    (case k3 => k_is)
    (case a4 => k_is)
    (case l4 => k_is)
    (case c4 => k_is)
    (case k4 => k_is)
    (case a5 => k_is)
    (case l5 => k_is)
    (case c5 => k_is)
    (case k5 => k_is)
    (case a6 => k_is)
    (case l6 => k_is)
    (case c6 => k_is)
    (case k6 => k_is)
    (case a7 => k_is)
    (case l7 => k_is)
    (case c7 => k_is)
    (case k7 => k_is)
    (case a8 => k_is)
    (case l8 => k_is)
    (case c8 => k_is)
    (case k8 => k_is)
    (case a9 => k_is)
    (case l9 => k_is)
    (case c9 => k_is)
    (case k9 => k_is)
    (case a10 => k_is)
    (case l10 => k_is)
    (case c10 => k_is)
    (case k10 => k_is)
    (case a11 => k_is)
    (case l11 => k_is)
    (case c11 => k_is)
    (case k11 => k_is)
    (case a12 => k_is)
    (case l12 => k_is)
    (case c12 => k_is)
    (case k12 => k_is)
    (case a13 => k_is)
    (case l13 => k_is)
    (case c13 => k_is)
    (case k13 => k_is)
    (case a14 => k_is)
    (case l14 => k_is)
    (case c14 => k_is)
    (case k14 => k_is)
    (case a15 => k_is)
    (case l15 => k_is)
    (case c15 => k_is)
    (case k15 => k_is)
    (case a16 => k_is)
    (case l16 => k_is)
    (case c16 => k_is)
    (case k16 => k_is)
    (case a17 => k_is)
    (case l17 => k_is)
    (case c17 => k_is)
    (case k17 => k_is)
    (case a18 => k_is)
    (case l18 => k_is)
    (case c18 => k_is)
    (case k18 => k_is)
    (case dl18 => k_is)
    (case a19 => k_is)
    (case l19 => k_is)
    (case c19 => k_is)
    (case k19 => k_is)
    (case a20 => k_is)
    (case l20 => k_is)
    (case c20 => k_is)
    (case k20 => k_is)
    (case a21 => k_is)
    (case l21 => k_is)
    (case c21 => k_is)
    (case k21 => k_is)
    (case a22 => k_is)
    (case l22 => k_is)
    (case c22 => k_is)
    (case k22 => k_is)
    (case a23 => k_is)
    (case l23 => k_is)
    (case c23 => k_is)
    (case k23 => k_is)
    (case a24 => k_is)
    (case l24 => k_is)
    (case c24 => k_is)
    (case k24 => k_is)
    (case a25 => k_is)
    (case l25 => k_is)
    (case c25 => k_is)
    (case k25 => k_is)
    (case a26 => k_is)
    (case l26 => k_is)
    (case c26 => k_is)
    (case k26 => k_is)
    (case a27 => k_is)
    (case l27 => k_is)
    (case c27 => k_is)
    (case k27 => k_is)
    (case a28 => k_is)
    (case l28 => k_is)
    (case c28 => k_is)
    (case k28 => k_is)
    (case a29 => k_is)
    (case l29 => k_is)
    (case c29 => k_is)
    (case k29 => k_is)
    (case a30 => k_is)
    (case l30 => k_is)
    (case c30 => k_is)
    (case k30 => k_is)
    (case a31 => k_is)
    (case l31 => k_is)
    (case c31 => k_is)
    (case k31 => k_is)
    (case da_SPANS => k_is)
    (case dl_SPANS => k_is)
    (case de_SPANS => repeat' (first | exact True.intro | exact rfl | exact ⟨_, rfl⟩ | constructor))
    (case z_len => k_is)
    (case z_isinstance => k_is)
    (case z_int => k_is)
    (case z_bool => k_is)
    (case z_list => k_is)
    (case z_tuple => k_is)
    (case z_all => k_is)
    (case z_range => k_is)
    (case z_sorted => k_is)
    (case z_set => k_is)
    (case cb_Guest => kernel_rfl)
    (case sm_SPANS => kernel_rfl)
