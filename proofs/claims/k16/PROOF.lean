import PyProof.Rows.All
import Wide.All
import OpenK.AllK
import Wide.FinOn
import PyProof.EqAt
import PyProof.EqKinds
import PyProof.TupleCall
import KE.BitLaws
import PySem.Challenge.RW_lagworks_k16_ends_that_do_not_fit
import KE.KRevIter
import PyProof.StationsW
import PyProof.ExcClass3
import PyProof.ExcInit
import PyProof.ExcFactsAll.ValueError
import PyProof.ExcArgs
import PyProof.InstStoreFacts
import PyProof.ExcBaseAll.ValueError
import KE.KNestM
import PyProof.NoPylong
import PyProof.ListRange
import PyProof.MinMaxWalk
import KE.KDictSum
import PyProof.Rows.SortWalk
import PyProof.DictCompW
import KE.KDictList
import KE.KSortKey
import PyProof.TupleOfSeq
import PyProof.P3In
set_option Elab.async false
set_option linter.all false
set_option maxRecDepth 100000
namespace L2
open PySem PySem.Spec PyProof.Rows

/-- a key: an int or a str -/
abbrev Key := Sum Int Str
def keyIs : Key → Value → Bool
  | .inl k, v => Value.isInt k v
  | .inr x, v => Value.isStrOf x v
def keyH (w : World) : Key → Int
  | .inl k => hashInt k
  | .inr x => hashStr w x
theorem keyIs_shape : ∀ {k : Key} {v : Value}, keyIs k v = true → (∃ i t, k = Sum.inl i ∧ v = Value.int i t) ∨ (∃ x t, k = Sum.inr x ∧ v = Value.str x t)
  | .inl i, v, h => by
    obtain ⟨t, e⟩ := Value.isInt_shape (k := i) (v := v) h
    exact .inl ⟨i, t, rfl, e⟩
  | .inr x, v, h => by
    obtain ⟨t, e⟩ := Value.isStrOf_shape (x := x) (v := v) h
    exact .inr ⟨x, t, rfl, e⟩
theorem keyIs_int (i : Int) (t : Tok) : keyIs (.inl i) (.int i t) = true := by simp [keyIs, Value.isInt]
theorem keyIs_str (x : Str) (t : Tok) : keyIs (.inr x) (.str x t) = true := by simp [keyIs, Value.isStrOf]
theorem key_ll (a b : Int) : decide ((Sum.inl a : Key) = Sum.inl b) = (a == b) := by
  by_cases e : a = b
  · subst e; simp
  · have h : ¬ (Sum.inl a : Key) = Sum.inl b := fun q => e (Sum.inl.inj q)
    rw [decide_eq_false h]
    exact (beq_eq_false_iff_ne.mpr e).symm
theorem key_rr (a b : Str) : decide ((Sum.inr a : Key) = Sum.inr b) = decide (a = b) := by
  by_cases e : a = b
  · subst e; simp
  · have h : ¬ (Sum.inr a : Key) = Sum.inr b := fun q => e (Sum.inr.inj q)
    rw [decide_eq_false h, decide_eq_false e]
theorem key_lr (a : Int) (b : Str) : decide ((Sum.inl a : Key) = Sum.inr b) = false := decide_eq_false (fun q => nomatch q)
theorem key_rl (a : Str) (b : Int) : decide ((Sum.inr a : Key) = Sum.inl b) = false := decide_eq_false (fun q => nomatch q)

def mixKind (prog : Program) (w : World) : PySem.KeyKind prog w Key where
  is := keyIs
  hash := keyH w
  inj := fun v a b ha hb => by
    rcases keyIs_shape ha with ⟨i, t, rfl, rfl⟩ | ⟨x, t, rfl, rfl⟩
    · rcases keyIs_shape hb with ⟨j, u, rfl, e⟩ | ⟨y, u, rfl, e⟩
      · injection e with e1 _; rw [e1]
      · exact nomatch e
    · rcases keyIs_shape hb with ⟨j, u, rfl, e⟩ | ⟨y, u, rfl, e⟩
      · exact nomatch e
      · injection e with e1 _; rw [e1]
  byValue := fun k v h => by
    rcases keyIs_shape h with ⟨i, t, rfl, rfl⟩ | ⟨x, t, rfl, rfl⟩ <;> rfl
  pyHash := fun hv h => by
    rcases keyIs_shape hv with ⟨i, t, rfl, rfl⟩ | ⟨x, t, rfl, rfl⟩
    · exact wpAny_pyHash_int h
    · exact wpAny_pyHash_str h
  eqBool := fun hu hv h => by
    rcases keyIs_shape hu with ⟨i, t, rfl, rfl⟩ | ⟨x, t, rfl, rfl⟩
    · rcases keyIs_shape hv with ⟨j, u, rfl, rfl⟩ | ⟨y, u, rfl, rfl⟩
      · rw [key_ll] at h; exact wpAny_eqBool_int h
      · rw [key_lr] at h; exact SeqAt.EqAt.int_str i t y u _ _ _ _ h
    · rcases keyIs_shape hv with ⟨j, u, rfl, rfl⟩ | ⟨y, u, rfl, rfl⟩
      · rw [key_rl] at h; exact SeqAt.EqAt.str_int x t j u _ _ _ _ h
      · rw [key_rr] at h; exact wpAny_eqBool_str h
  «strs» := fun k x t v h => by
    rcases keyIs_shape h with ⟨i, u, rfl, e⟩ | ⟨y, u, rfl, e⟩
    · exact nomatch e
    · injection e with e1 _
      subst e1
      cases v <;> rfl

theorem mixKind_int (prog : Program) (w : World) (i : Int) (t : Tok) : (mixKind prog w).is (.inl i) (.int i t) = true := keyIs_int i t
theorem mixKind_str (prog : Program) (w : World) (x : Str) (t : Tok) : (mixKind prog w).is (.inr x) (.str x t) = true := keyIs_str x t
end L2

namespace L2
open PySem PySem.Spec PyProof.Rows

/-- a value, without the heap -/
inductive V where
  | non | bl (b : Bool) | int (i : Int) | str (x : Str) | byt (b : Array UInt8) | flt (b : UInt64) | ref (a : Addr) | ty (n : String)
  deriving DecidableEq

def RelV : V → Value → Prop
  | .non, u => u = Value.none
  | .bl b, u => u = Value.bool b
  | .int i, u => ∃ t, u = Value.int i t
  | .str x, u => ∃ t, u = Value.str x t
  | .byt b, u => ∃ t, u = Value.bytes b t
  | .flt b, u => ∃ t, u = Value.float b t
  | .ref a, u => u = Value.ref a
  | .ty n, u => u = Value.type n

abbrev Vals : List V → List Value → Prop := Paired RelV
theorem Vals.length {xs : List V} {us : List Value} (r : Vals xs us) : xs.length = us.length := Paired.length r
theorem Vals.get : ∀ {xs : List V} {us : List Value} {i : Nat} {x : V}, Vals xs us → xs[i]? = some x → ∃ u, us[i]? = some u ∧ RelV x u
  | _, _, _, _, .nil, e => by simp at e
  | _, _, 0, _, .cons r _, e => by simp at e; subst e; exact ⟨_, rfl, r⟩
  | _, _, i + 1, x, .cons _ t, e => by
    obtain ⟨u, h1, h2⟩ := Vals.get (i := i) (x := x) t (by simpa using e)
    exact ⟨u, by simpa using h1, h2⟩
theorem Vals.set {x : V} {u : Value} (r : RelV x u) : ∀ {xs : List V} {us : List Value} (i : Nat), Vals xs us → Vals (xs.set i x) (us.set i u)
  | _, _, _, .nil => .nil
  | _, _, 0, .cons _ t => .cons r t
  | _, _, i + 1, .cons q t => .cons q (Vals.set r i t)
theorem Vals.append : ∀ {xs ys : List V} {us ws : List Value}, Vals xs us → Vals ys ws → Vals (xs ++ ys) (us ++ ws)
  | _, _, _, _, .nil, s => s
  | _, _, _, _, .cons r t, s => .cons r (Vals.append t s)
theorem Vals.take : ∀ {xs : List V} {us : List Value} (n : Nat), Vals xs us → Vals (xs.take n) (us.take n)
  | _, _, 0, _ => .nil
  | _, _, _ + 1, .nil => .nil
  | _, _, n + 1, .cons r t => .cons r (Vals.take n t)
theorem Vals.drop : ∀ {xs : List V} {us : List Value} (n : Nat), Vals xs us → Vals (xs.drop n) (us.drop n)
  | _, _, 0, r => r
  | _, _, _ + 1, .nil => .nil
  | _, _, n + 1, .cons _ t => Vals.drop n t
def RelO : Option V → Option Value → Prop
  | some v, some u => RelV v u
  | none, none => True
  | _, _ => False
def KV {κ : Type} : List (κ × V) → List (κ × Value) → Prop := Paired fun (p : κ × V) (q : κ × Value) => p.1 = q.1 ∧ RelV p.2 q.2

/-- a key of a dict (00_mix): an int or a text -/
def kV : Key → V
  | .inl i => .int i
  | .inr x => .str x

/-- what stands at a tracked address -/
inductive HO where
  /-- a list -/
  | lst (xs : List V)
  /-- a tuple (never changes) -/
  | tup (xs : List V)
  /-- a dict whose keys are ints and texts; one whose keys are tuples of ints and texts (the empty one is both) -/
  | dK (kvs : List (Key × V)) | dT (kvs : List (List Key × V))
  /-- a set of ints: its members, its size -/
  | set (S : Int → Bool) (n : Nat)
  /-- an instance of the class at C, its dict at dx, its attributes -/
  | ins (C dx : Addr) (fs : List (Str × V))
  /-- the dict of the instance at x -/
  | own (x : Addr)
  /-- the dict of an exception -/
  | xd (fs : List (Str × V))
  /-- a bound method, f of x -/
  | met (f x : Addr)
  /-- a range object lo, lo + 1, .. below hi -/
  | rng (lo hi : Int)
  /-- a thing that is known to the object (the script; a dict while a loop walks it): read, never written while it is so -/
  | frz (o : Obj) (u : HO)
  /-- a code object's table -/
  | tbl (ps : Array Value)
  /-- any other thing, by what is true of its one object (a def of one's own: SetO a S n := HO.ext fun h => ..) -/
  | ext (φ : Heap → Prop)

abbrev Hp := Addr → Option HO
def upd (H : Hp) (a : Addr) (o : HO) : Hp := fun b => if b = a then some o else H b
theorem upd_same {H : Hp} {a : Addr} {o : HO} : upd H a o a = some o := by unfold upd; rw [if_pos rfl]
theorem upd_ne {H : Hp} {a b : Addr} {o : HO} (h : b ≠ a) : upd H a o b = H b := by unfold upd; rw [if_neg h]
theorem ne_of_none {H : Hp} {a b : Addr} {o : HO} (h : H a = some o) (h' : H b = none) : a ≠ b := by
  intro e; subst e; rw [h] at h'; cases h'

section
variable (P : Program) (w : World)
def ObjOk (H : Hp) (h : Heap) (a : Addr) : HO → Prop
  | .lst xs => xs.length ≤ sizeLine ∧ ∃ (its : List Value) (n : Nat), Vals xs its ∧ h.get? a = some { cls := .type "list", data := .seq its.toArray n }
  | .tup xs => xs.length ≤ sizeLine ∧ ∃ its : List Value, Vals xs its ∧ IsTup h a its.toArray
  | .dK kvs => kvs.length ≤ sizeLine ∧ (a == sysModules) = false ∧ ∃ vs, KV kvs vs ∧ h.DictOf (mixKind P w) a vs
  | .dT kvs => kvs.length ≤ sizeLine ∧ (a == sysModules) = false ∧ ∃ xs : List (List Key × Addr × Value),
      Paired (fun (p : List Key × V) (q : List Key × Addr × Value) => p.1 = q.1 ∧ H q.2.1 = some (.tup (p.1.map kV)) ∧ RelV p.2 q.2.2) kvs xs ∧
      ∃ o es ep, h.get? a = some o ∧ o.ExactDict ∧ o.data = .dict es ep ∧ es.toList = xs.map (entryOfKey (tupleKind (mixKind P w))) ∧ (xs.map (·.1)).Nodup
  | .set S n => h.SetOf (intKind P w) a S n
  | .ins C dx fs => H dx = some (.own a) ∧ fs.length ≤ 1000 ∧ dx ≠ a ∧ h.get? a = some (PySem.W.instObj C dx) ∧
      ∃ mA, h.Ns1 dx mA ∧ (∀ f, RelO (fs.lookup f) (mA f)) ∧ PySem.Within mA (fs.map (·.1))
  | .own _ => ∃ o, h.get? a = some o
  | .xd fs => ∃ mA, h.Ns1 a mA ∧ ∀ f, RelO (fs.lookup f) (mA f)
  | .rng lo hi => ∃ t u v, h.get? a = some { cls := .type "range", data := .fields #[.int lo t, .int hi u, .int 1 v] }
  | .frz o u => h.get? a = some o ∧ ObjOk H h a u
  | .tbl ps => h.get? a = some { cls := .none, data := .fields ps }
  | .met f x => h.get? a = some (PySem.W.methodObj (.ref f) (.ref x))
  | .ext φ => φ h ∧ (∃ o, h.get? a = some o) ∧ ∀ h1 h2 : Heap, φ h1 → (∀ o, h1.get? a = some o → h2.get? a = some o) → φ h2
/-- the abstract heap is held -/
def HOk (H : Hp) (h : Heap) : Prop := ∀ a o, H a = some o → ObjOk P w H h a o
end

section
variable {P : Program} {w : World} {H H' : Hp} {h h' : Heap} {a : Addr} {o : HO}
theorem ObjOk.lt (x : ObjOk P w H h a o) : a < h.objs.size := by
  cases o with
  | lst xs => obtain ⟨_, _, _, _, e⟩ := x; exact Heap.lt_size e
  | tup xs => obtain ⟨_, _, _, p⟩ := x; exact p.lt
  | dK kvs => obtain ⟨_, _, _, _, o, _, _, e, _⟩ := x; exact Heap.lt_size e
  | dT kvs => obtain ⟨_, _, _, _, o, _, _, e, _⟩ := x; exact Heap.lt_size e
  | set S n => obtain ⟨o, _, _, _, e, _⟩ := x; exact Heap.lt_size e
  | ins C dx fs => obtain ⟨_, _, _, e, _⟩ := x; exact Heap.lt_size e
  | own y => obtain ⟨_, e⟩ := x; exact Heap.lt_size e
  | xd fs => obtain ⟨_, ⟨_, _, _, e, _⟩, _⟩ := x; exact Heap.lt_size e
  | rng lo hi => obtain ⟨_, _, _, e⟩ := x; exact Heap.lt_size e
  | frz ob u => obtain ⟨e, _⟩ := x; exact Heap.lt_size e
  | tbl ps => exact Heap.lt_size (show h.get? a = some _ from x)
  | met f y => exact Heap.lt_size (show h.get? a = some _ from x)
  | ext φ => obtain ⟨_, ⟨_, e⟩, _⟩ := x; exact Heap.lt_size e
theorem Paired.mapP {α β : Type} {F G : α → β → Prop} : ∀ {l₁ : List α} {l₂ : List β}, Paired F l₁ l₂ → (∀ a b, F a b → G a b) → Paired G l₁ l₂
  | _, _, .nil, _ => .nil
  | _, _, .cons r t, f => .cons (f _ _ r) (Paired.mapP t f)
/-- what an object's description leans on: its own object, its own dict, the tuples -/
theorem ObjOk.stay (x : ObjOk P w H h a o) (k : ∀ b u, (b = a ∨ H b = some (.own a)) → h.get? b = some u → h'.get? b = some u)
    (ho : ∀ b, H b = some (.own a) → H' b = some (.own a)) (ht : ∀ b xs, H b = some (.tup xs) → H' b = some (.tup xs)) : ObjOk P w H' h' a o := by
  induction o with
  | lst xs => obtain ⟨z, its, n, r, e⟩ := x; exact ⟨z, its, n, r, k _ _ (.inl rfl) e⟩
  | tup xs => obtain ⟨z, its, r, ob, e, c⟩ := x; exact ⟨z, its, r, ob, k _ _ (.inl rfl) e, c⟩
  | dK kvs => obtain ⟨z, y, vs, r, ob, es, ep, e, c⟩ := x; exact ⟨z, y, vs, r, ob, es, ep, k _ _ (.inl rfl) e, c⟩
  | dT kvs =>
    obtain ⟨z, y, xs, r, ob, es, ep, e, c⟩ := x
    exact ⟨z, y, xs, Paired.mapP r fun p q z => ⟨z.1, ht _ _ z.2.1, z.2.2⟩, ob, es, ep, k _ _ (.inl rfl) e, c⟩
  | set S n => obtain ⟨ob, es, ep, t, e, c⟩ := x; exact ⟨ob, es, ep, t, k _ _ (.inl rfl) e, c⟩
  | ins C dx fs =>
    obtain ⟨d, z, ne, e, mA, ⟨od, es, ep, e2, c⟩, r⟩ := x
    exact ⟨ho _ d, z, ne, k _ _ (.inl rfl) e, mA, ⟨od, es, ep, k _ _ (.inr d) e2, c⟩, r⟩
  | own y => obtain ⟨ob, e⟩ := x; exact ⟨ob, k _ _ (.inl rfl) e⟩
  | xd fs => obtain ⟨mA, ⟨od, es, ep, e, c⟩, r⟩ := x; exact ⟨mA, ⟨od, es, ep, k _ _ (.inl rfl) e, c⟩, r⟩
  | rng lo hi => obtain ⟨t, u, v, e⟩ := x; exact ⟨t, u, v, k _ _ (.inl rfl) e⟩
  | frz ob u ih => obtain ⟨e, q⟩ := x; exact ⟨k _ _ (.inl rfl) e, ih q⟩
  | tbl ps =>
    have e : h.get? a = some { cls := .none, data := .fields ps } := x
    show h'.get? a = some { cls := .none, data := .fields ps }
    exact k a _ (.inl rfl) e
  | met f y =>
    have e : h.get? a = some (PySem.W.methodObj (.ref f) (.ref y)) := x
    show h'.get? a = some (PySem.W.methodObj (.ref f) (.ref y))
    exact k a _ (.inl rfl) e
  | ext φ => obtain ⟨p, ⟨o, e⟩, st⟩ := x; exact ⟨st _ _ p fun o q => k _ _ (.inl rfl) q, ⟨o, k _ _ (.inl rfl) e⟩, st⟩
theorem HOk.lt (x : HOk P w H h) (e : H a = some o) : a < h.objs.size := (x a o e).lt
theorem HOk.fresh (x : HOk P w H h) (e : h.objs.size ≤ a) : H a = none := by
  cases q : H a with
  | none => rfl
  | some u => exact absurd (Nat.lt_of_lt_of_le (x.lt q) e) (Nat.lt_irrefl _)
/-- every object of the heap is kept -/
theorem HOk.kept (x : HOk P w H h) (k : ∀ b u, h.get? b = some u → h'.get? b = some u) : HOk P w H h' := fun a o e =>
  (x a o e).stay (fun b u _ q => k b u q) (fun _ q => q) fun _ _ q => q
/-- a new object is laid and tracked -/
theorem HOk.laid (x : HOk P w H h) (k : ∀ b u, h.get? b = some u → h'.get? b = some u) (hp : h.objs.size ≤ a) (new : ObjOk P w (upd H a o) h' a o) : HOk P w (upd H a o) h' := fun b u e => by
  have hn := x.fresh hp
  by_cases hb : b = a
  · subst hb; rw [upd_same] at e; cases e; exact new
  · rw [upd_ne hb] at e
    exact (x b u e).stay (fun c v _ q => k c v q) (fun c q => by rw [upd_ne (ne_of_none q hn)]; exact q) fun c xs q => by rw [upd_ne (ne_of_none q hn)]; exact q
end

/-- what may be read as u: it is u, or a known u -/
def Rd (H : Hp) (a : Addr) (u : HO) : Prop := H a = some u ∨ ∃ o, H a = some (.frz o u)
theorem Rd.of {H : Hp} {a : Addr} {u : HO} (h : H a = some u) : Rd H a u := .inl h
theorem Rd.ok {P : Program} {w : World} {H : Hp} {h : Heap} {a : Addr} {u : HO} (r : Rd H a u) (x : HOk P w H h) : ObjOk P w H h a u := by
  rcases r with r | ⟨o, r⟩
  · exact x a u r
  · obtain ⟨_, q⟩ := x a _ r
    exact q
/-- what may be written -/
def Mut : Option HO → Prop
  | some (.lst _) => True
  | some (.dK _) => True
  | some (.dT _) => True
  | some (.set _ _) => True
  | some (.ins _ _ _) => True
  | some (.ext _) => True
  | _ => False
section
variable {P : Program} {w : World} {H : Hp} {h h' : Heap} {x e : Addr} {o' : HO}
/-- the object at e is changed: x itself, or the dict of the instance x -/
theorem HOk.write (ok : HOk P w H h) (mu : Mut (H x)) (he : e = x ∨ H e = some (.own x)) (k : ∀ b u, b ≠ e → h.get? b = some u → h'.get? b = some u) (heo : ∃ u, h'.get? e = some u)
    (new : ObjOk P w (upd H x o') h' x o') : HOk P w (upd H x o') h' := fun b u q => by
  have nown : ∀ c y, H c = some (.own y) → c ≠ x := fun c y r z => by subst z; rw [r] at mu; exact mu
  have ntup : ∀ c xs, H c = some (.tup xs) → c ≠ x := fun c xs r z => by subst z; rw [r] at mu; exact mu
  by_cases hb : b = x
  · subst hb; rw [upd_same] at q; cases q; exact new
  · rw [upd_ne hb] at q
    by_cases hbe : b = e
    · have q' : H b = some (.own x) := by
        rcases he with z | z
        · exact absurd (hbe.trans z) hb
        · rw [hbe]; exact z
      rw [q] at q'; cases q'
      obtain ⟨v, hv⟩ := heo
      exact ⟨v, by rw [hbe]; exact hv⟩
    · refine (ok b u q).stay (fun c v hc r => k c v ?_ r) (fun c r => by rw [upd_ne (nown c b r)]; exact r) fun c xs r => by rw [upd_ne (ntup c xs r)]; exact r
      rcases hc with rfl | hc
      · exact hbe
      · rintro rfl
        rcases he with z | z
        · exact nown c b hc z
        · rw [hc] at z; cases z; exact hb rfl
end

/-! ### kept unless tracked; of the frames at fs (the callers') the slots may change (an exception that passes writes there); of the records at ex (iterators) nothing is said -/
structure Un (fs ex : List Addr) (H H' : Hp) (h h' : Heap) : Prop where
  keep : ∀ b o, h.get? b = some o → H b = none → b ∉ fs → b ∉ ex → h'.get? b = some o
  slot : ∀ b o, h.get? b = some o → H b = none → b ∈ fs → b ∉ ex → ∃ sl, h'.get? b = some { o with slots := sl }
  free : ∀ b o, h.get? b = some o → H b = none → b ∉ ex → H' b = none
  there : ∀ b o, h.get? b = some o → b ∉ ex → ∃ o', h'.get? b = some o'
  tups : ∀ b xs, H b = some (.tup xs) → H' b = some (.tup xs)
  frzs : ∀ b o u, H b = some (.frz o u) → H' b = some (.frz o u)
  tbls : ∀ b ps, H b = some (.tbl ps) → ∃ more, H' b = some (.tbl (ps ++ more))
section
variable {fs fs' ex ex' : List Addr} {H H1 H2 : Hp} {h h1 h2 h' : Heap} {a x e : Addr} {o : HO}
theorem Un.any (u : Un fs ex H H1 h h1) {b : Addr} {ob : Obj} (q : h.get? b = some ob) (n : H b = none) (hx : b ∉ ex) : ∃ sl, h1.get? b = some { ob with slots := sl } := by
  by_cases hb : b ∈ fs
  · exact u.slot b ob q n hb hx
  · exact ⟨ob.slots, u.keep b ob q n hb hx⟩
theorem Un.trans (a : Un fs ex H H1 h h1) (b : Un fs ex H1 H2 h1 h2) : Un fs ex H H2 h h2 where
  keep := fun c ob q n hc hx => b.keep c ob (a.keep c ob q n hc hx) (a.free c ob q n hx) hc hx
  slot := fun c ob q n hc hx => by
    obtain ⟨sl, e1⟩ := a.slot c ob q n hc hx
    obtain ⟨sl', e2⟩ := b.slot c _ e1 (a.free c ob q n hx) hc hx
    exact ⟨sl', e2⟩
  free := fun c ob q n hx => by
    obtain ⟨o', e1⟩ := a.there c ob q hx
    exact b.free c o' e1 (a.free c ob q n hx) hx
  there := fun c ob q hx => by
    obtain ⟨o', e1⟩ := a.there c ob q hx
    exact b.there c o' e1 hx
  tups := fun c xs q => b.tups c xs (a.tups c xs q)
  frzs := fun c ob xs q => b.frzs c ob xs (a.frzs c ob xs q)
  tbls := fun c ps q => by
    obtain ⟨m1, e1⟩ := a.tbls c ps q
    obtain ⟨m2, e2⟩ := b.tbls c _ e1
    exact ⟨m1 ++ m2, by rw [e2, Array.append_assoc]⟩
theorem Un.kept (k : ∀ b u, h.get? b = some u → h'.get? b = some u) : Un fs ex H H h h' :=
  ⟨fun b ob q _ _ _ => k b ob q, fun b ob q _ _ _ => ⟨ob.slots, k b ob q⟩, fun _ _ _ n _ => n, fun b ob q _ => ⟨ob, k b ob q⟩, fun _ _ q => q, fun _ _ _ q => q, fun _ ps q => ⟨#[], by rw [q]; simp⟩⟩
theorem Un.refl : Un fs ex H H h h := Un.kept fun _ _ q => q
theorem Un.laid (k : ∀ b u, h.get? b = some u → h'.get? b = some u) (hp : h.objs.size ≤ a) (hn : H a = none) : Un fs ex H (upd H a o) h h' where
  keep := fun b u q _ _ _ => k b u q
  slot := fun b u q _ _ _ => ⟨u.slots, k b u q⟩
  free := fun b u q n _ => by rw [upd_ne (Nat.ne_of_lt (Nat.lt_of_lt_of_le (Heap.lt_size q) hp))]; exact n
  there := fun b u q _ => ⟨u, k b u q⟩
  tups := fun b xs q => by rw [upd_ne (ne_of_none q hn)]; exact q
  frzs := fun b u xs q => by rw [upd_ne (ne_of_none q hn)]; exact q
  tbls := fun b ps q => ⟨#[], by rw [upd_ne (ne_of_none q hn), q]; simp⟩
theorem Un.write (mu : Mut (H x)) (he : e = x ∨ H e = some (.own x)) (k : ∀ b u, b ≠ e → h.get? b = some u → h'.get? b = some u) (heo : ∃ u, h'.get? e = some u) : Un fs ex H (upd H x o) h h' := by
  have hx : ∀ b, H b = none → b ≠ x := fun b n z => by subst z; rw [n] at mu; exact mu
  have hb : ∀ b, H b = none → b ≠ e := fun b n z => by
    subst z
    rcases he with r | r
    · exact hx b n r
    · rw [n] at r; cases r
  have hm : ∀ b u, H b = some u → ¬ Mut (some u) → b ≠ x := fun b u q nm z => by subst z; rw [q] at mu; exact nm mu
  refine ⟨fun b u q n _ _ => k b u (hb b n) q, fun b u q n _ _ => ⟨u.slots, k b u (hb b n) q⟩, fun b u q n _ => by rw [upd_ne (hx b n)]; exact n, fun b u q _ => ?_,
    fun b xs q => by rw [upd_ne (hm b _ q fun z => z)]; exact q, fun b u xs q => by rw [upd_ne (hm b _ q fun z => z)]; exact q, fun b ps q => ⟨#[], by rw [upd_ne (hm b _ q fun z => z), q]; simp⟩⟩
  by_cases hbe : b = e
  · subst hbe; exact heo
  · exact ⟨u, k b u hbe q⟩
theorem Un.mono (u : Un fs ex H H1 h h1) (hs : ∀ b ∈ fs, b ∈ fs') (hx : ∀ b ∈ ex, b ∈ ex') : Un fs' ex' H H1 h h1 :=
  ⟨fun b ob q n hb he => u.keep b ob q n (fun z => hb (hs b z)) fun z => he (hx b z), fun _ _ q n _ he => u.any q n fun z => he (hx _ z), fun b ob q n he => u.free b ob q n fun z => he (hx b z), fun b ob q he => u.there b ob q fun z => he (hx b z), u.tups, u.frzs, u.tbls⟩
end

/-! ### the heap without what is tracked -/
def trk (h : Heap) (H : Hp) : List Addr := (List.range h.objs.size).filter fun a => (H a).isSome
def hidT (h : Heap) (H : Hp) : Heap := PySem.W.hideAll h (trk h H)
theorem hidT_size (h : Heap) (H : Hp) : (hidT h H).objs.size = h.objs.size := PySem.W.hideAll_size _ _
theorem hidT_get {h : Heap} {H : Hp} {b : Addr} {o : Obj} (e : h.get? b = some o) (n : H b = none) : (hidT h H).get? b = some o :=
  PySem.W.hideAll_get _ e fun hm => by
    have q : (H b).isSome = true := (List.mem_filter.mp hm).2
    rw [n] at q; simp at q
theorem of_hidT {h : Heap} {H : Hp} {b : Addr} {o : Obj} (e : (hidT h H).get? b = some o) : h.get? b = some o ∧ H b = none := by
  have e' : h.get? b = some o := PySem.W.of_hideAll (trk h H) e
  refine ⟨e', ?_⟩
  cases q : H b with
  | none => rfl
  | some x =>
    have hm : b ∈ trk h H := List.mem_filter.mpr ⟨List.mem_range.mpr (Heap.lt_size e'), by simp [q]⟩
    have z : (hidT h H).get? b = none := PySem.W.hideAll_none (trk h H) hm
    rw [z] at e; cases e

/-! ### OpenK's ledger, filled with every new object but one -/
def allNews (g h : Heap) (L : Addr) : List (Addr × Obj) := (List.range h.objs.size).filterMap fun a => if a = L ∨ (g.get? a).isSome = true then none else (h.get? a).map fun o => (a, o)
def rest (g h : Heap) (L d : Addr) : List (Addr × Obj) := (allNews g h L).filter fun p => decide (p.1 ≠ d)
end L2

namespace L2
open PySem PySem.Spec PyProof.Rows

/-- the module's facts, over the base: the heap at the law's entry without what is tracked there -/
structure Mod (K : PySem.W.Frag) (mg : Str → Option Value) (base : Heap) : Prop where
  kin : K.In base
  glob : base.Ns mainGlobals mg
  blt : ∃ mb, base.Ns builtinsNs mb ∧ ∀ x : Str, x ≠ "__name__" → mb x = bootBuiltins x
  nolimit : base.NoLimit

/-- the context: a def's body (or a comprehension's block) running. base: fixed through the whole law; s₀, H₀: the entry; outer: the frames whose slots others may change (a def's callers); stack: all frames that run;
   ex: iterators that were made ahead of the entry and are walked here (a comprehension's); fn: the names whose cells were made at the entry (a def: all; a comprehension's block: its own); calm: not within an except suite; pn: pins that every state bears; xe: what is wanted of an exception that leaves the code -/
structure Cx where
  prog : Program
  w : World
  K : PySem.W.Frag
  mg : Str → Option Value
  base : Heap
  A : Around
  N : List Str
  s_0 : Shared
  H_0 : Hp
  env : Env
  outer : List Env
  stack : List Env
  ex : List Addr
  fn : Str → Bool
  calm : Bool
  pn : List (Addr × Obj)
  xe : Value → Shared → Prop
/-- the callers' frames -/
def frs (l : List Env) : List Addr := l.filterMap (·.frame)
abbrev Cx.fs (X : Cx) : List Addr := frs X.outer

def Vis (sc : Scope) (x : Str) : Prop := sc.names.lookup x = some .local ∨ sc.names.lookup x = some .cell ∨ sc.names.lookup x = some .free
def Loc (sc : Scope) (x : Str) : Prop := sc.names.lookup x = some .local ∨ sc.names.lookup x = some .cell
def Look (env : Env) (h : Heap) (m : Str → Option Value) (x : Str) (u : Value) : Prop :=
  (env.kindOf x = some .local ∧ m x = some u) ∨ ((env.kindOf x = some .cell ∨ env.kindOf x = some .free) ∧ ∃ c, env.cells.lookup x = some c ∧ h.IsCell c (some u))

structure Cx.Ok (X : Cx) : Prop where
  mod : Mod X.K X.mg X.base
  kind : X.env.scope.kind = .function
  glob : X.env.globals = mainGlobals
  blt : X.env.builtins = builtinsNs
  above : X.s_0.heap.objs.size ≤ X.env.locals
  inj : ∀ x y c, X.env.cells.lookup x = some c → X.env.cells.lookup y = some c → x = y
  has : ∀ x, (X.env.kindOf x = some .cell ∨ X.env.kindOf x = some .free) → ∃ c, X.env.cells.lookup x = some c
  cab : ∀ x c, X.fn x = true → X.env.cells.lookup x = some c → X.s_0.heap.objs.size ≤ c
  hd : X.calm = true → X.A.handled = none
  frames : X.A.frames = some X.stack
  stk : X.stack = X.outer ∨ (X.stack = X.env :: X.outer ∧ X.env.frame = some X.env.locals)
  exf : ∀ b ∈ X.ex, b ≠ X.env.locals ∧ ∀ x c, X.env.cells.lookup x = some c → c ≠ b
  bs : ∀ b o, X.base.get? b = some o → X.s_0.heap.get? b = some o ∧ X.H_0 b = none
  bsz : X.base.objs.size ≤ X.s_0.heap.objs.size
  noex : ∀ b o, X.base.get? b = some o → b ∉ X.ex
  exfs : ∀ b ∈ X.ex, b ∉ X.fs
  funs : X.s_0.heap.FunFrames X.base X.outer
  frf : ∀ b ∈ X.fs, X.H_0 b = none

structure Inv (X : Cx) (pins : List (Addr × Obj)) (σ : List (Option V)) (H : Hp) (s : Shared) : Prop where
  ok : X.Ok
  os : s.os = X.s_0.os
  bare : AllBare s.gens
  base : Un X.fs X.ex X.H_0 H X.s_0.heap s.heap
  loc : ∃ m, s.heap.Ns X.env.locals m ∧ ∀ (i : Nat) (x : Str) (v : V), X.N[i]? = some x → σ[i]? = some (some v) → Vis X.env.scope x → ∃ u, RelV v u ∧ Look X.env s.heap m x u
  cell : ∀ x c, X.env.cells.lookup x = some c → ∃ v, s.heap.IsCell c v
  free : H X.env.locals = none
  freeC : ∀ x c, X.env.cells.lookup x = some c → H c = none
  pin : ∀ p ∈ X.pn ++ pins, s.heap.get? p.1 = some p.2 ∧ H p.1 = none ∧ p.1 ≠ X.env.locals ∧ p.1 ∉ X.fs ∧ ∀ v, p.2.data ≠ .cell v
  hok : HOk X.prog X.w H s.heap
  len : σ.length = X.N.length

section
variable {X : Cx} {pins : List (Addr × Obj)} {σ : List (Option V)} {H H' : Hp} {s : Shared} {h' : Heap}

theorem Cx.Ok.nofr (ok : X.Ok) {b : Addr} {o : Obj} (e : X.base.get? b = some o) : b ∉ X.fs := fun hb => by
  have := (ok.funs.mem hb).1
  rw [e] at this; cases this
theorem Inv.bs (I : Inv X pins σ H s) : ∀ b o, X.base.get? b = some o → s.heap.get? b = some o ∧ H b = none := fun b o e =>
  ⟨I.base.keep b o (I.ok.bs b o e).1 (I.ok.bs b o e).2 (I.ok.nofr e) (I.ok.noex b o e), I.base.free b o (I.ok.bs b o e).1 (I.ok.bs b o e).2 (I.ok.noex b o e)⟩
theorem Inv.bk (I : Inv X pins σ H s) : ∀ b o, X.base.get? b = some o → s.heap.get? b = some o := fun b o e => (I.bs b o e).1
theorem Inv.mod (I : Inv X pins σ H s) : Mod X.K X.mg X.base := I.ok.mod
theorem Inv.kIn (I : Inv X pins σ H s) : X.K.In s.heap := I.ok.mod.kin.keeps I.bk
theorem Inv.nolimit (I : Inv X pins σ H s) : s.heap.NoLimit := I.ok.mod.nolimit.keeps I.bk
/-- the frame over the base: for OpenK's rules (K.In X.base is I.mod.kin) -/
theorem Inv.fr (I : Inv X pins σ H s) : ∃ m, Fr X.base X.env.locals s.heap m :=
  let ⟨m, hn, _⟩ := I.loc
  ⟨m, hn, I.bk, Nat.le_trans I.ok.bsz I.ok.above⟩
theorem Inv.lt (I : Inv X pins σ H s) : X.env.locals < s.heap.objs.size := let ⟨_, hn, _⟩ := I.loc; hn.lt
theorem Inv.sz (I : Inv X pins σ H s) : X.s_0.heap.objs.size ≤ s.heap.objs.size := Nat.le_trans I.ok.above (Nat.le_of_lt I.lt)
theorem Inv.nofs (I : Inv X pins σ H s) {a : Addr} (h : s.heap.objs.size ≤ a) : a ∉ X.fs := fun hb => by
  obtain ⟨_, o, ho, _⟩ := I.ok.funs.mem hb
  exact absurd (Nat.lt_of_lt_of_le (Heap.lt_size ho) (Nat.le_trans I.sz h)) (Nat.lt_irrefl _)
theorem Inv.cne (I : Inv X pins σ H s) : ∀ x c, X.env.cells.lookup x = some c → c ≠ X.env.locals := fun x c e z => by
  obtain ⟨v, o, ho, hd⟩ := I.cell x c e
  obtain ⟨m, ⟨o', es, ep, ho', hd', _⟩, _⟩ := I.loc
  rw [z, ho'] at ho; cases ho; rw [hd'] at hd; cases hd
theorem Inv.funs (I : Inv X pins σ H s) : s.heap.FunFrames X.base X.outer := by
  have all : ∀ (l : List Env), (∀ b ∈ frs l, b ∈ X.fs) → X.s_0.heap.FunFrames X.base l → s.heap.FunFrames X.base l := by
    intro l
    induction l with
    | nil => intro _ _; trivial
    | cons env r ih =>
      intro hs hl
      obtain ⟨hk, ⟨L, o, hf, hn, ho, hd⟩, hr⟩ := hl
      have hL : L ∈ X.fs := hs L (by unfold frs; rw [List.filterMap_cons, hf]; exact List.mem_cons_self)
      obtain ⟨sl, e⟩ := I.base.slot L o ho (I.ok.frf L hL) hL fun z => I.ok.exfs L z hL
      exact ⟨hk, ⟨L, _, hf, hn, e, hd⟩, ih (fun b hb => hs b (by unfold frs; rw [List.filterMap_cons, hf]; exact List.mem_cons_of_mem _ hb)) hr⟩
  exact all X.outer (fun _ hb => hb) I.ok.funs

/-- the frames that run, for a call -/
theorem Inv.stack (I : Inv X pins σ H s) : s.heap.FunFrames X.base X.stack := by
  rcases I.ok.stk with e | ⟨e, hf⟩
  · rw [e]; exact I.funs
  · rw [e]
    obtain ⟨m, hn, _⟩ := I.loc
    refine .cons (by rw [I.ok.kind]; decide) hf hn ?_ I.funs
    exact Heap.get?_none_of_le (Nat.le_trans I.ok.bsz I.ok.above)
theorem Inv.stkSub (I : Inv X pins σ H s) : ∀ b ∈ frs X.stack, b ∈ X.env.locals :: X.fs := fun b hb => by
  rcases I.ok.stk with e | ⟨e, hf⟩
  · rw [e] at hb; exact List.mem_cons_of_mem _ hb
  · rw [e] at hb
    unfold frs at hb
    rw [List.filterMap_cons, hf] at hb
    exact hb
theorem Inv.stkFree (I : Inv X pins σ H s) : ∀ b ∈ frs X.stack, H b = none := fun b hb => by
  rcases List.mem_cons.mp (I.stkSub b hb) with e | hb
  · rw [e]; exact I.free
  · obtain ⟨_, o, ho, _⟩ := I.ok.funs.mem hb
    exact I.base.free b o ho (I.ok.frf b hb) fun z => I.ok.exfs b z hb

/-- THE STEP: the untracked objects but the frame and the records at ch are kept (the callers' frames up to slots), the frame's map is kept, the new abstract heap is held -/
theorem Inv.step {g' : Array GenState} {t' : Nat} {d' : Drawn} {ch : List Addr} (I : Inv X pins σ H s)
    (hch : ∀ b ∈ ch, (b ∈ X.ex ∨ X.s_0.heap.objs.size ≤ b) ∧ b ≠ X.env.locals ∧ (∀ x c, X.env.cells.lookup x = some c → c ≠ b) ∧ ∀ p ∈ X.pn ++ pins, p.1 ≠ b)
    (keep : ∀ b o, b ≠ X.env.locals → b ∉ X.fs → b ∉ ch → s.heap.get? b = some o → H b = none → h'.get? b = some o)
    (slot : ∀ b o, b ≠ X.env.locals → b ∈ X.fs → b ∉ ch → s.heap.get? b = some o → H b = none → ∃ sl, h'.get? b = some { o with slots := sl }) (free : ∀ b o, b ∉ ch → s.heap.get? b = some o → H b = none → H' b = none)
    (there : ∀ b o, b ∉ ch → s.heap.get? b = some o → ∃ o', h'.get? b = some o')
    (tups : ∀ b xs, H b = some (.tup xs) → H' b = some (.tup xs)) (frzs : ∀ b o u, H b = some (.frz o u) → H' b = some (.frz o u)) (tbls : ∀ b ps, H b = some (.tbl ps) → ∃ more, H' b = some (.tbl (ps ++ more)))
    (ns : ∀ m, s.heap.Ns X.env.locals m → h'.Ns X.env.locals m) (hok : HOk X.prog X.w H' h') (hg : AllBare g') :
    Inv X pins σ H' { s with heap := h', gens := g', drawn := d', toks := t' } := by
  have neL : ∀ b o, X.s_0.heap.get? b = some o → b ≠ X.env.locals := fun b o e => Nat.ne_of_lt (Nat.lt_of_lt_of_le (Heap.lt_size e) I.ok.above)
  have neC : ∀ b o, X.s_0.heap.get? b = some o → b ∉ X.ex → b ∉ ch := fun b o e hx hb => by
    rcases (hch b hb).1 with z | z
    · exact hx z
    · exact absurd (Nat.lt_of_lt_of_le (Heap.lt_size e) z) (Nat.lt_irrefl _)
  have cellK : ∀ x c, X.env.cells.lookup x = some c → ∀ v, s.heap.IsCell c v → h'.IsCell c v := fun x c e v ⟨o, ho, hd⟩ => by
    have nch : c ∉ ch := fun z => (hch c z).2.2.1 x c e rfl
    by_cases hc : c ∈ X.fs
    · obtain ⟨sl, q⟩ := slot c o (I.cne x c e) hc nch ho (I.freeC x c e)
      exact ⟨_, q, hd⟩
    · exact ⟨o, keep c o (I.cne x c e) hc nch ho (I.freeC x c e), hd⟩
  refine ⟨I.ok, I.os, hg, ⟨fun b o e n hb hx => ?_, fun b o e n hb hx => ?_, fun b o e n hx => ?_, fun b o e hx => ?_, fun b xs e => tups b xs (I.base.tups b xs e), fun b o xs e => frzs b o xs (I.base.frzs b o xs e), fun b ps e => ?_⟩, ?_, fun x c e => ?_, ?_, fun x c e => ?_, fun p hp => ?_, hok, I.len⟩
  · exact keep b o (neL b o e) hb (neC b o e hx) (I.base.keep b o e n hb hx) (I.base.free b o e n hx)
  · obtain ⟨sl, e1⟩ := I.base.slot b o e n hb hx
    obtain ⟨sl', e2⟩ := slot b _ (neL b o e) hb (neC b o e hx) e1 (I.base.free b o e n hx)
    exact ⟨sl', e2⟩
  · obtain ⟨o', e1⟩ := I.base.there b o e hx
    exact free b o' (neC b o e hx) e1 (I.base.free b o e n hx)
  · obtain ⟨o', e1⟩ := I.base.there b o e hx
    exact there b o' (neC b o e hx) e1
  · obtain ⟨m1, e1⟩ := I.base.tbls b ps e
    obtain ⟨m2, e2⟩ := tbls b _ e1
    exact ⟨m1 ++ m2, by rw [e2, Array.append_assoc]⟩
  · obtain ⟨m, hn, hl⟩ := I.loc
    refine ⟨m, ns m hn, fun i x v e1 e2 e3 => ?_⟩
    obtain ⟨u, r, l⟩ := hl i x v e1 e2 e3
    refine ⟨u, r, ?_⟩
    rcases l with l | ⟨k, c, e, z⟩
    · exact .inl l
    · exact .inr ⟨k, c, e, cellK x c e _ z⟩
  · obtain ⟨v, z⟩ := I.cell x c e
    exact ⟨v, cellK x c e v z⟩
  · obtain ⟨m, ⟨o, _, _, ho, _⟩, _⟩ := I.loc
    exact free _ o (fun z => (hch _ z).2.1 rfl) ho I.free
  · obtain ⟨v, o, ho, hd⟩ := I.cell x c e
    exact free c o (fun z => (hch c z).2.2.1 x c e rfl) ho (I.freeC x c e)
  · obtain ⟨e, n, ne, nf, d⟩ := I.pin p hp
    have nch : p.1 ∉ ch := fun z => (hch p.1 z).2.2.2 p hp rfl
    exact ⟨keep p.1 p.2 ne nf nch e n, free p.1 p.2 nch e n, ne, nf, d⟩
/-- .. where the frame's own object is kept too -/
theorem Inv.un {t' : Nat} (I : Inv X pins σ H s) (u : Un X.fs [] H H' s.heap h') (hok : HOk X.prog X.w H' h') : Inv X pins σ H' { s with heap := h', toks := t' } := by
  obtain ⟨m, ⟨o, es, ep, ho, r⟩, _⟩ := id I.loc
  obtain ⟨sl, hL⟩ := u.any ho I.free (by simp)
  exact I.step (g' := s.gens) (d' := s.drawn) (ch := []) (fun _ z => nomatch z) (fun b o _ hb _ e n => u.keep b o e n hb (by simp)) (fun b o _ hb _ e n => u.slot b o e n hb (by simp)) (fun b o _ e n => u.free b o e n (by simp)) (fun b o _ e => u.there b o e (by simp)) u.tups u.frzs u.tbls (fun m' hm => by
    obtain ⟨o', es', ep', ho', r'⟩ := hm
    rw [ho] at ho'; cases ho'
    exact ⟨_, es', ep', hL, r'⟩) hok I.bare
/-- behind a call (or a comprehension's block): the slots of this frame may have changed too, the records at ch may have turned -/
theorem Inv.call {g' : Array GenState} {t' : Nat} {d' : Drawn} {ch : List Addr} (I : Inv X pins σ H s) (u : Un (frs X.stack) ch H H' s.heap h') (hok : HOk X.prog X.w H' h') (hg : AllBare g')
    (hch : ∀ b ∈ ch, (b ∈ X.ex ∨ X.s_0.heap.objs.size ≤ b) ∧ b ≠ X.env.locals ∧ (∀ x c, X.env.cells.lookup x = some c → c ≠ b) ∧ ∀ p ∈ X.pn ++ pins, p.1 ≠ b) :
    Inv X pins σ H' { s with heap := h', gens := g', drawn := d', toks := t' } := by
  obtain ⟨m, ⟨o, es, ep, ho, r⟩, _⟩ := id I.loc
  obtain ⟨sl, hL⟩ := u.any ho I.free fun z => (hch _ z).2.1 rfl
  exact I.step (ch := ch) hch (fun b o hL hb hc e n => u.keep b o e n (fun z => (List.mem_cons.mp (I.stkSub b z)).elim hL hb) hc) (fun b o _ _ hc e n => u.any e n hc) (fun b o hc e n => u.free b o e n hc) (fun b o hc e => u.there b o e hc) u.tups u.frzs u.tbls (fun m' hm => by
    obtain ⟨o', es', ep', ho', r'⟩ := hm
    rw [ho] at ho'; cases ho'
    exact ⟨_, es', ep', hL, r'⟩) hok hg
/-- an untracked record of ours (an iterator) has turned -/
theorem Inv.turned {t' : Nat} {it : Addr} (I : Inv X pins σ H s) (k : ∀ b o, b ≠ it → s.heap.get? b = some o → h'.get? b = some o) (hn : H it = none) (hL : it ≠ X.env.locals)
    (h1 : it ∈ X.ex ∨ X.s_0.heap.objs.size ≤ it) (h2 : ∀ x c, X.env.cells.lookup x = some c → c ≠ it) (h3 : ∀ p ∈ X.pn ++ pins, p.1 ≠ it) : Inv X pins σ H { s with heap := h', toks := t' } := by
  have nit : ∀ b u, H b = some u → b ≠ it := fun b u e z => by rw [z, hn] at e; cases e
  refine I.step (g' := s.gens) (d' := s.drawn) (ch := [it]) (fun b hb => ?_) (fun b o _ _ hc e _ => k b o (fun z => hc (by simp [z])) e) (fun b o _ _ hc e _ => ⟨o.slots, k b o (fun z => hc (by simp [z])) e⟩) (fun _ _ _ _ n => n)
    (fun b o hc e => ⟨o, k b o (fun z => hc (by simp [z])) e⟩) (fun _ _ e => e) (fun _ _ _ e => e) (fun b ps e => ⟨#[], by rw [e]; simp⟩) (fun m hm => ?_) (fun b u e => ?_) I.bare
  · have e : b = it := by simpa using hb
    subst e
    exact ⟨h1, hL, h2, h3⟩
  · obtain ⟨o, es, ep, ho, r⟩ := hm
    exact ⟨o, es, ep, k _ o (Ne.symm hL) ho, r⟩
  · refine (I.hok b u e).stay (fun c v hc q => k c v ?_ q) (fun _ q => q) fun _ _ q => q
    rcases hc with z | z
    · rw [z]; exact nit b u e
    · exact nit c _ z
theorem Inv.tok (I : Inv X pins σ H s) (t : Nat) : Inv X pins σ H { s with toks := t } := I.un (h' := s.heap) (t' := t) Un.refl I.hok
/-- all objects kept -/
theorem Inv.kept {t' : Nat} (I : Inv X pins σ H s) (k : ∀ b u, s.heap.get? b = some u → h'.get? b = some u) : Inv X pins σ H { s with heap := h', toks := t' } := I.un (Un.kept k) (I.hok.kept k)
/-- a new object laid and tracked -/
theorem Inv.laid {a : Addr} {o : HO} {t' : Nat} (I : Inv X pins σ H s) (k : ∀ b u, s.heap.get? b = some u → h'.get? b = some u) (hp : s.heap.objs.size ≤ a) (new : ObjOk X.prog X.w (upd H a o) h' a o) :
    Inv X pins σ (upd H a o) { s with heap := h', toks := t' } := I.un (Un.laid k hp (I.hok.fresh hp)) (I.hok.laid k hp new)
/-- an object written -/
theorem Inv.write {x e : Addr} {o : HO} {t' : Nat} (I : Inv X pins σ H s) (mu : Mut (H x)) (he : e = x ∨ H e = some (.own x)) (k : ∀ b u, b ≠ e → s.heap.get? b = some u → h'.get? b = some u) (heo : ∃ u, h'.get? e = some u)
    (new : ObjOk X.prog X.w (upd H x o) h' x o) : Inv X pins σ (upd H x o) { s with heap := h', toks := t' } := I.un (Un.write mu he k heo) (I.hok.write mu he k heo new)
/-- forgetting slots, pins -/
theorem Inv.weak {σ' : List (Option V)} (I : Inv X pins σ H s) (hl : σ'.length = σ.length) (w : ∀ (i : Nat) v, σ'[i]? = some (some v) → σ[i]? = some (some v)) : Inv X pins σ' H s :=
  ⟨I.ok, I.os, I.bare, I.base, let ⟨m, hn, hl'⟩ := I.loc; ⟨m, hn, fun i x v e1 e2 e3 => hl' i x v e1 (w i v e2) e3⟩, I.cell, I.free, I.freeC, I.pin, I.hok, hl.trans I.len⟩
theorem Inv.pins_of {pins' : List (Addr × Obj)} (I : Inv X pins σ H s) (h : ∀ p ∈ pins', s.heap.get? p.1 = some p.2 ∧ H p.1 = none ∧ p.1 ≠ X.env.locals ∧ p.1 ∉ X.fs ∧ ∀ v, p.2.data ≠ .cell v) : Inv X pins' σ H s :=
  ⟨I.ok, I.os, I.bare, I.base, I.loc, I.cell, I.free, I.freeC, fun p hp => (List.mem_append.mp hp).elim (fun z => I.pin p (List.mem_append_left _ z)) (h p), I.hok, I.len⟩

theorem nodup_ix {N : List Str} (hN : N.Nodup) {i j : Nat} {x : Str} (a : N[i]? = some x) (b : N[j]? = some x) : i = j := by
  obtain ⟨h1, e1⟩ := List.getElem?_eq_some_iff.mp a
  obtain ⟨h2, e2⟩ := List.getElem?_eq_some_iff.mp b
  exact (List.getElem_inj hN).mp (e1.trans e2.symm)

/-- a name is stored; what changed -/
theorem store_ok2 {M : Model} {A : Around} {E : Value → Shared → Prop} {i : Nat} {x : Str} {v : V} {u : Value} {Q : Unit → Shared → Prop} (I : Inv X pins σ H s) (hN : X.N.Nodup) (hi : X.N[i]? = some x) (hx : Loc X.env.scope x) (r : RelV v u)
    (h : ∀ s', Inv X pins (σ.set i (some v)) H s' → (∃ a, Heap.SameBut a s.heap s'.heap ∧ (a = X.env.locals ∨ X.env.cells.lookup x = some a)) → Q () s') (hf : X.fn x = true ∨ X.env.scope.names.lookup x = some .local := by first | exact .inl rfl | exact .inr rfl | assumption) : wpAny M A (storeName X.env x u) Q E s := by
  obtain ⟨m, hn, hl⟩ := id I.loc
  have hcls : (X.env.scope.kind == .class || (X.env.scope.kind == .module && X.env.locals != X.env.globals)) = false := by rw [I.ok.kind]; rfl
  have hiσ : i < σ.length := by rw [I.len]; exact (List.getElem?_eq_some_iff.mp hi).1
  have cne := I.cne
  have tracked : ∀ {a : Addr} {h' : Heap}, (∃ o, s.heap.get? a = some o ∧ H a = none) → Heap.SameBut a s.heap h' → HOk X.prog X.w H h' := fun {a h'} ha hs b ob e => by
    obtain ⟨_, _, hfree⟩ := ha
    refine (I.hok b ob e).stay (fun c w' hc q => (hs.2 c ?_).trans q) (fun _ q => q) fun _ _ q => q
    rintro rfl
    rcases hc with rfl | hc
    · rw [hfree] at e; cases e
    · rw [hfree] at hc; cases hc
  rcases hx with hk | hk
  · refine wpAny_storeName_local hk hn (fun h' hn' hs => ?_) hcls
    obtain ⟨oL, _, _, hoL, _⟩ := id hn
    refine h _ ⟨I.ok, I.os, I.bare, ⟨fun b o e n hb hx => ?_, fun b o e n hb hx => ?_, I.base.free, fun b o e hx => ?_, I.base.tups, I.base.frzs, I.base.tbls⟩, ⟨_, hn', fun j y v' e1 e2 e3 => ?_⟩, fun y c e => ?_, I.free, I.freeC, fun p hp => ?_, tracked ⟨oL, hoL, I.free⟩ hs, by simpa using I.len⟩ ⟨_, hs, .inl rfl⟩
    · exact (hs.2 b (Nat.ne_of_lt (Nat.lt_of_lt_of_le (Heap.lt_size e) I.ok.above))).trans (I.base.keep b o e n hb hx)
    · obtain ⟨sl, e1⟩ := I.base.slot b o e n hb hx
      exact ⟨sl, (hs.2 b (Nat.ne_of_lt (Nat.lt_of_lt_of_le (Heap.lt_size e) I.ok.above))).trans e1⟩
    · obtain ⟨o', e1⟩ := I.base.there b o e hx
      exact ⟨o', (hs.2 b (Nat.ne_of_lt (Nat.lt_of_lt_of_le (Heap.lt_size e) I.ok.above))).trans e1⟩
    · by_cases hj : j = i
      · subst hj
        rw [hi] at e1; cases e1
        rw [List.getElem?_set_self hiσ] at e2
        cases e2
        exact ⟨u, r, .inl ⟨hk, by simp⟩⟩
      · rw [List.getElem?_set_ne (Ne.symm hj)] at e2
        obtain ⟨u', r', q⟩ := hl j y v' e1 e2 e3
        refine ⟨u', r', ?_⟩
        rcases q with ⟨k, e⟩ | ⟨k, c, e, z⟩
        · refine .inl ⟨k, ?_⟩
          have : y ≠ x := fun e => hj (nodup_ix hN e1 (e ▸ hi))
          simp [this, e]
        · exact .inr ⟨k, c, e, z.sameBut hs (cne y c e)⟩
    · obtain ⟨w', z⟩ := I.cell y c e
      exact ⟨w', z.sameBut hs (cne y c e)⟩
    · obtain ⟨e, n, ne, nf, d⟩ := I.pin p hp
      exact ⟨(hs.2 p.1 ne).trans e, n, ne, nf, d⟩
  · have hfn : X.fn x = true := by
      rcases hf with z | z
      · exact z
      · rw [z] at hk; cases hk
    obtain ⟨c, hc⟩ := I.ok.has x (.inl hk)
    obtain ⟨w', z⟩ := I.cell x c hc
    refine wpAny_storeName_cell I.ok.kind hk hc z (fun h' hc' hs => ?_)
    obtain ⟨oc, hoc, hocd⟩ := id z
    refine h { s with heap := h' } ⟨I.ok, I.os, I.bare, ⟨fun b o e n hb hx => ?_, fun b o e n hb hx => ?_, I.base.free, fun b o e hx => ?_, I.base.tups, I.base.frzs, I.base.tbls⟩, ⟨m, hn.sameBut hs (Ne.symm (cne x c hc)), fun j y v' e1 e2 e3 => ?_⟩, fun y c' e => ?_, I.free, I.freeC, fun p hp => ?_, tracked ⟨oc, hoc, I.freeC x c hc⟩ hs, by simpa using I.len⟩ ⟨c, hs, .inr hc⟩
    · exact (hs.2 b (Nat.ne_of_lt (Nat.lt_of_lt_of_le (Heap.lt_size e) (I.ok.cab x c hfn hc)))).trans (I.base.keep b o e n hb hx)
    · obtain ⟨sl, e1⟩ := I.base.slot b o e n hb hx
      exact ⟨sl, (hs.2 b (Nat.ne_of_lt (Nat.lt_of_lt_of_le (Heap.lt_size e) (I.ok.cab x c hfn hc)))).trans e1⟩
    · obtain ⟨o', e1⟩ := I.base.there b o e hx
      exact ⟨o', (hs.2 b (Nat.ne_of_lt (Nat.lt_of_lt_of_le (Heap.lt_size e) (I.ok.cab x c hfn hc)))).trans e1⟩
    · by_cases hj : j = i
      · subst hj
        rw [hi] at e1; cases e1
        rw [List.getElem?_set_self hiσ] at e2
        cases e2
        exact ⟨u, r, .inr ⟨.inl hk, c, hc, hc'⟩⟩
      · rw [List.getElem?_set_ne (Ne.symm hj)] at e2
        obtain ⟨u', r', q⟩ := hl j y v' e1 e2 e3
        refine ⟨u', r', ?_⟩
        rcases q with q | ⟨k, c', e, z'⟩
        · exact .inl q
        · refine .inr ⟨k, c', e, z'.sameBut hs ?_⟩
          rintro rfl
          exact hj (nodup_ix hN e1 (I.ok.inj _ _ _ e hc ▸ hi))
    · by_cases hcc : c' = c
      · subst hcc; exact ⟨_, hc'⟩
      · obtain ⟨w2, z2⟩ := I.cell y c' e
        exact ⟨w2, z2.sameBut hs hcc⟩
    · obtain ⟨e, n, ne, nf, d⟩ := I.pin p hp
      refine ⟨(hs.2 p.1 ?_).trans e, n, ne, nf, d⟩
      intro q
      rw [q, hoc] at e
      have q' : oc = p.2 := Option.some.inj e
      exact d w' (by rw [← q']; exact hocd)
theorem store_ok {M : Model} {A : Around} {E : Value → Shared → Prop} {i : Nat} {x : Str} {v : V} {u : Value} {Q : Unit → Shared → Prop} (I : Inv X pins σ H s) (hN : X.N.Nodup) (hi : X.N[i]? = some x) (hx : Loc X.env.scope x) (r : RelV v u)
    (h : ∀ s', Inv X pins (σ.set i (some v)) H s' → Q () s') (hf : X.fn x = true ∨ X.env.scope.names.lookup x = some .local := by first | exact .inl rfl | exact .inr rfl | assumption) : wpAny M A (storeName X.env x u) Q E s :=
  store_ok2 I hN hi hx r (fun s' I' _ => h s' I') hf
/-- behind a call or a block, the state as it is -/
theorem Inv.call' {s' : Shared} {ch : List Addr} (I : Inv X pins σ H s) (ho : s'.os = s.os) (u : Un (frs X.stack) ch H H' s.heap s'.heap) (hok : HOk X.prog X.w H' s'.heap) (hg : AllBare s'.gens)
    (hch : ∀ b ∈ ch, (b ∈ X.ex ∨ X.s_0.heap.objs.size ≤ b) ∧ b ≠ X.env.locals ∧ (∀ x c, X.env.cells.lookup x = some c → c ≠ b) ∧ ∀ p ∈ X.pn ++ pins, p.1 ≠ b) : Inv X pins σ H' s' := by
  obtain ⟨h', g', d', t', o'⟩ := s'
  have e : o' = s.os := ho
  subst e
  exact I.call (g' := g') (t' := t') (d' := d') u hok hg hch
end

/-! ### the judgements -/
/-- an exception: its class, its own dict's address (where it has one), the abstract heap behind it -/
abbrev XK := Value → Option Addr → Hp → Prop
abbrev St := List (Option V)
abbrev VK := V → Hp → Prop
/-- an expression's reading; a test's; an argument list's -/
abbrev TE := St → Hp → VK → Prop
abbrev TT := St → Hp → (Bool → Hp → Prop) → Prop
abbrev TA := St → Hp → (List V → Hp → Prop) → Prop
/-- what is wanted behind a statement -/
structure Ends where
  nx : St → Hp → Prop
  rt : VK
  bk : St → Hp → Prop := fun _ _ => False
  ct : St → Hp → Prop := fun _ _ => False
abbrev TS := Ends → St → Hp → Prop

def EP (X : Cx) (pins : List (Addr × Obj)) (σ : St) (Q : VK) (u : Value) (s' : Shared) : Prop := ∃ v H', Inv X pins σ H' s' ∧ RelV v u ∧ Q v H'
def TP (X : Cx) (pins : List (Addr × Obj)) (σ : St) (Q : Bool → Hp → Prop) (b : Bool) (s' : Shared) : Prop := ∃ H', Inv X pins σ H' s' ∧ Q b H'
def AP (X : Cx) (pins : List (Addr × Obj)) (σ : St) (Q : List V → Hp → Prop) (us : List Value) (s' : Shared) : Prop := ∃ vs H', Inv X pins σ H' s' ∧ Vals vs us ∧ Q vs H'
def SP (X : Cx) (pins : List (Addr × Obj)) (D : Ends) (f : Flow) (s' : Shared) : Prop :=
  match f with
  | .next => ∃ σ' H', Inv X pins σ' H' s' ∧ D.nx σ' H'
  | .brk => ∃ σ' H', Inv X pins σ' H' s' ∧ D.bk σ' H'
  | .cont => ∃ σ' H', Inv X pins σ' H' s' ∧ D.ct σ' H'
  | .ret u => ∃ v σ' H', Inv X pins σ' H' s' ∧ RelV v u ∧ D.rt v H'

def PE (X : Cx) (e : Expr) (t : TE) : Prop :=
  ∀ (pins : List (Addr × Obj)) (s : Shared) (σ : St) (H : Hp) (Q : VK), Inv X pins σ H s → t σ H Q → wpAny (model X.prog X.w) X.A (eval e X.env) (EP X pins σ Q) X.xe s
def PT (X : Cx) (e : Expr) (t : TT) : Prop :=
  ∀ (pins : List (Addr × Obj)) (s : Shared) (σ : St) (H : Hp) (Q : Bool → Hp → Prop), Inv X pins σ H s → t σ H Q → wpAny (model X.prog X.w) X.A (isTrue e X.env (eval e X.env)) (TP X pins σ Q) X.xe s
/-- a test whatever its 'whole' is (and, or) -/
def PW (X : Cx) (e : Expr) (t : TT) : Prop :=
  ∀ (whole : Sem Value) (pins : List (Addr × Obj)) (s : Shared) (σ : St) (H : Hp) (Q : Bool → Hp → Prop), Inv X pins σ H s → t σ H Q → wpAny (model X.prog X.w) X.A (isTrue e X.env whole) (TP X pins σ Q) X.xe s
theorem PW.pt {X : Cx} {e : Expr} {t : TT} (h : PW X e t) : PT X e t := h _
/-- an argument list (no star), from the left -/
def PA (X : Cx) (es : List Expr) (t : TA) : Prop :=
  ∀ (pos : Pos) (pins : List (Addr × Obj)) (s : Shared) (σ : St) (H : Hp) (Q : List V → Hp → Prop), Inv X pins σ H s → t σ H Q → wpAny (model X.prog X.w) X.A (spliced (backTo pos (starEach es X.env))) (AP X pins σ Q) X.xe s
def PS (X : Cx) (st : Stmt) (t : TS) : Prop :=
  ∀ (pins : List (Addr × Obj)) (s : Shared) (σ : St) (H : Hp) (D : Ends), Inv X pins σ H s → t D σ H → wpAny (model X.prog X.w) X.A (exec st X.env) (SP X pins D) X.xe s
def PSs (X : Cx) (st : List Stmt) (t : TS) : Prop :=
  ∀ (pins : List (Addr × Obj)) (s : Shared) (σ : St) (H : Hp) (D : Ends), Inv X pins σ H s → t D σ H → wpAny (model X.prog X.w) X.A (execs st X.env) (SP X pins D) X.xe s
/-- weaken the end -/
theorem thn {α : Type} {t : Sem α} {Q Q' : α → Shared → Prop} {M : Model} {A : Around} {E : Value → Shared → Prop} {s : Shared} (h : wpAny M A t Q E s) (hQ : ∀ a s, Q a s → Q' a s) : wpAny M A t Q' E s := wpAny_mono h hQ fun _ _ x => x
end L2

namespace L2
open PySem PySem.Spec PyProof.Rows
section
variable {X : Cx}

/-! ### names and constants -/
def tVar (i : Nat) : TE := fun σ H Q => ∃ v, σ[i]? = some (some v) ∧ Q v H
def tC (v : V) : TE := fun _ H Q => Q v H
theorem pe_var {i : Nat} {x : Str} {pos : Pos} (hN : X.N[i]? = some x) (hv : Vis X.env.scope x) (hd : (x == ("__debug__" : Str)) = false := by decide) (hcd : (x == ("__classdict__" : Str)) = false := by decide) : PE X (.Name x pos) (tVar i) := by
  intro pins s σ H Q I h
  obtain ⟨v, e, h⟩ := h
  obtain ⟨m, hn, hl⟩ := I.loc
  obtain ⟨u, r, l⟩ := hl i x v hN e hv
  have fin : EP X pins σ Q u s := ⟨v, H, I, r, h⟩
  rcases l with ⟨hk, hm⟩ | ⟨hk, c, hc, hcell⟩
  · exact wpAny_Name (wpAny_loadName_local I.ok.kind hk hn hm fin) hd
  · rcases hk with hk | hk
    · exact wpAny_Name (wpAny_loadName_cell I.ok.kind hk hc hcell fin) hd
    · exact wpAny_Name (wpAny_loadName_free I.ok.kind hk hc hcell fin hcd) hd
theorem pe_int {i j pos} : PE X (.Constant (.int i) j pos) (tC (.int i)) := fun _ _ _ H _ I h => wpAny_Constant_int ⟨.int i, H, I.tok _, ⟨_, rfl⟩, h⟩
theorem pe_bl {b j pos} : PE X (.Constant (.bool b) j pos) (tC (.bl b)) := fun _ _ _ H _ I h => Constant_bool ⟨.bl b, H, I, rfl, h⟩
theorem pe_non {j pos} : PE X (.Constant .none j pos) (tC .non) := fun _ _ _ H _ I h => Constant_none ⟨.non, H, I, rfl, h⟩
theorem pe_str {x j pos} : PE X (.Constant (.str x) j pos) (tC (.str x)) := fun _ _ _ H _ I h => Calls.Constant_str ⟨.str x, H, I.tok _, ⟨_, rfl⟩, h⟩

/-- a global name of the def -/
def Gl (X : Cx) (x : Str) : Prop := X.env.kindOf x = some .globalImplicit
theorem ld_glob {E : Value → Shared → Prop} {pins : List (Addr × Obj)} {s : Shared} {σ : St} {H : Hp} {x : Str} {u : Value} {pos : Pos} {Q : Value → Shared → Prop} (I : Inv X pins σ H s) (hg : Gl X x) (hm : X.mg x = some u) (h : Q u s)
    (hd : (x == ("__debug__" : Str)) = false := by decide) : wpAny (model X.prog X.w) X.A (eval (.Name x pos) X.env) Q E s :=
  Calls.Name_function_global I.ok.kind hg (Calls.loadGlobal_global (by rw [I.ok.glob]; exact I.mod.glob.keeps I.bk) hm h) hd
theorem ld_blt {E : Value → Shared → Prop} {pins : List (Addr × Obj)} {s : Shared} {σ : St} {H : Hp} {x : Str} {u : Value} {pos : Pos} {Q : Value → Shared → Prop} (I : Inv X pins σ H s) (hg : Gl X x) (hm : X.mg x = none) (hv : bootBuiltins x = some u) (h : Q u s)
    (hn : x ≠ "__name__" := by decide) (hd : (x == ("__debug__" : Str)) = false := by decide) : wpAny (model X.prog X.w) X.A (eval (.Name x pos) X.env) Q E s := by
  obtain ⟨mb, h1, h2⟩ := I.mod.blt
  exact Calls.Name_function_global I.ok.kind hg (Calls.loadGlobal_builtin (by rw [I.ok.glob]; exact I.mod.glob.keeps I.bk) hm (by rw [I.ok.blt]; exact h1.keeps I.bk) ((h2 x hn).trans hv) h) hd
/-- a module's constant, a class, a function, as a value -/
theorem pe_glob {x : Str} {v : V} {u : Value} {pos : Pos} (hg : Gl X x) (hm : X.mg x = some u) (r : RelV v u) (hd : (x == ("__debug__" : Str)) = false := by decide) : PE X (.Name x pos) (tC v) :=
  fun _ _ _ H _ I h => ld_glob I hg hm ⟨v, H, I, r, h⟩ hd
theorem pe_bltn {x : Str} {v : V} {u : Value} {pos : Pos} (hg : Gl X x) (hm : X.mg x = none) (hv : bootBuiltins x = some u) (r : RelV v u) (hn : x ≠ "__name__" := by decide) (hd : (x == ("__debug__" : Str)) = false := by decide) : PE X (.Name x pos) (tC v) :=
  fun _ _ _ H _ I h => ld_blt I hg hm hv ⟨v, H, I, r, h⟩ hn hd

variable {a b : Expr} {ta tb : TE} {pos : Pos}
/-! ### comparisons -/
def PC (X : Cx) (op : CmpOp) (a b : Expr) (t : TE) : Prop :=
  ∀ (pins : List (Addr × Obj)) (s : Shared) (σ : St) (H : Hp) (Q : VK), Inv X pins σ H s → t σ H Q →
    wpAny (model X.prog X.w) X.A (eval a X.env) (fun v s₁ => wpAny (model X.prog X.w) X.A (eval b X.env) (fun u s₂ => wpAny (model X.prog X.w) X.A (compareOp op v u) (EP X pins σ Q) X.xe s₂) X.xe s₁) X.xe s
theorem nobehind (b : Expr) {op : CmpOp} (h : op ≠ .In) (h2 : op ≠ .NotIn) : behindInMarks op b = false := by
  have e1 : (op == CmpOp.In) = false := by cases op <;> first | rfl | exact absurd rfl h
  have e2 : (op == CmpOp.NotIn) = false := by cases op <;> first | rfl | exact absurd rfl h2
  cases b <;> simp [behindInMarks, e1, e2]
/-- a comparison as a value, as a test -/
def tB (t : TE) : TT := fun σ H Q => t σ H fun x H1 => ∃ c, x = .bl c ∧ Q c H1
theorem pt_cmp {op : CmpOp} {t : TE} (h : PC X op a b t) (h1 : behindInMarks op b = false := by first | exact nobehind _ (by decide) (by decide) | rfl) : PT X (.Compare a [op] [b] pos) (tB t) := by
  intro pins s σ H Q I hw
  refine wpAny_isTrue_Compare1 (thn (h pins s σ H _ I hw) fun v s1 h1 => thn h1 fun u s2 h2 => thn h2 fun c s3 ⟨x, H1, I1, r1, q1⟩ => ?_) h1
  obtain ⟨d, rfl, q⟩ := q1
  cases r1
  exact wpAny_truthy_bool ⟨H1, I1, q⟩
/-- an expression whose value is a bool, as a test -/
theorem pt_val {e : Expr} {t : TE} (h : PE X e t) (he : ∀ whole, isTrue e X.env whole = (do let v ← whole; standAt e.pos; holding [v] (truthy v)) := by intro _; rfl) : PT X e (tB t) := by
  intro pins s σ H Q I hw
  refine isTrue_plain (thn (h pins s σ H _ I hw) fun v s1 ⟨x, H1, I1, r1, q1⟩ => ?_) (he _)
  obtain ⟨d, rfl, q⟩ := q1
  cases r1
  exact wpAny_truthy_bool ⟨H1, I1, q⟩

variable {tA tB' : TT} {rest : List Expr}
def tAnd (t u : TT) : TT := fun σ H Q => t σ H fun c H1 => if c = true then u σ H1 Q else Q false H1
def tOr (t u : TT) : TT := fun σ H Q => t σ H fun c H1 => if c = true then Q true H1 else u σ H1 Q
def tNot (t : TT) : TT := fun σ H Q => t σ H fun c H1 => Q (!c) H1
theorem pw_and1 (ha : PT X a tA) : PW X (.BoolOp .And [a] pos) tA := by
  intro wh pins s σ H Q I h
  refine isTrue_and (thn (ha pins s σ H Q I h) fun c s1 e => ?_)
  cases c with
  | true => exact isTrue_and_nil e
  | false => exact e
theorem pw_or1 (ha : PT X a tA) : PW X (.BoolOp .Or [a] pos) tA := by
  intro wh pins s σ H Q I h
  refine isTrue_or (thn (ha pins s σ H Q I h) fun c s1 e => ?_)
  cases c with
  | false => exact isTrue_or_nil e
  | true => exact e
theorem pw_and (ha : PT X a tA) (hb : PW X (.BoolOp .And (b :: rest) pos) tB') : PW X (.BoolOp .And (a :: b :: rest) pos) (tAnd tA tB') := by
  intro wh pins s σ H Q I h
  refine isTrue_and (thn (ha pins s σ H _ I h) fun c s1 ⟨H1, I1, q1⟩ => ?_)
  cases c with
  | true => exact hb wh pins s1 σ H1 Q I1 q1
  | false => exact ⟨H1, I1, q1⟩
theorem pw_or (ha : PT X a tA) (hb : PW X (.BoolOp .Or (b :: rest) pos) tB') : PW X (.BoolOp .Or (a :: b :: rest) pos) (tOr tA tB') := by
  intro wh pins s σ H Q I h
  refine isTrue_or (thn (ha pins s σ H _ I h) fun c s1 ⟨H1, I1, q1⟩ => ?_)
  cases c with
  | true => exact ⟨H1, I1, q1⟩
  | false => exact hb wh pins s1 σ H1 Q I1 q1
theorem pt_not (ha : PT X a tA) : PT X (.UnaryOp .Not a pos) (tNot tA) := by
  intro pins s σ H Q I h
  exact isTrue_not (ha pins s σ H (fun c H1 => Q (!c) H1) I h)
/-- .. as values (bools) -/
def tAndV (ta tb : TE) : TE := fun σ H Q => ta σ H fun x H1 => ∃ c, x = .bl c ∧ if c = true then tb σ H1 Q else Q (.bl false) H1
def tNotV (ta : TE) : TE := fun σ H Q => ta σ H fun x H1 => ∃ c, x = .bl c ∧ Q (.bl (!c)) H1
theorem pe_one {op} {t : TE} (h : PE X a t) : PE X (.BoolOp op [a] pos) t := fun pins s σ H Q I hw => BoolOp_one (h pins s σ H Q I hw)
theorem pe_and (ha : PE X a ta) (hb : PE X (.BoolOp .And (b :: rest) pos) tb) : PE X (.BoolOp .And (a :: b :: rest) pos) (tAndV ta tb) := by
  intro pins s σ H Q I h
  refine BoolOp_and (thn (ha pins s σ H _ I h) fun v s1 ⟨x, H1, I1, r1, q1⟩ => ?_)
  obtain ⟨c, rfl, q1⟩ := q1
  cases r1
  refine wpAny_truthy_bool ?_
  cases c with
  | true => exact hb pins s1 σ H1 Q I1 q1
  | false => exact ⟨.bl false, H1, I1, rfl, q1⟩
theorem pe_not (ha : PE X a ta) : PE X (.UnaryOp .Not a pos) (tNotV ta) := by
  intro pins s σ H Q I h
  refine UnaryOp_ (thn (ha pins s σ H _ I h) fun v s1 ⟨x, H1, I1, r1, q1⟩ => ?_)
  obtain ⟨c, rfl, q1⟩ := q1
  cases r1
  exact not_of (wpAny_truthy_bool ⟨.bl (!c), H1, I1, rfl, q1⟩)
/-- a if t else b -/
def tIf (t : TT) (ta tb : TE) : TE := fun σ H Q => t σ H fun c H1 => if c = true then ta σ H1 Q else tb σ H1 Q
theorem pe_ifExp {c : Expr} (hc : PT X c tA) (ha : PE X a ta) (hb : PE X b tb) : PE X (.IfExp c a b pos) (tIf tA ta tb) := by
  intro pins s σ H Q I h
  refine wpAny_IfExp (thn (hc pins s σ H _ I h) fun d s1 ⟨H1, I1, q1⟩ => ?_)
  cases d with
  | true => exact ha pins s1 σ H1 Q I1 q1
  | false => exact hb pins s1 σ H1 Q I1 q1
end
end L2

namespace L2
open PySem PySem.Spec PyProof.Rows

/-! ### a list, a tuple that is read: tracked, frozen, or an object of the module -/
def SqL (K : PySem.W.Frag) (H : Hp) (a : Addr) (xs : List V) : Prop :=
  Rd H a (.lst xs) ∨
    ∃ (o : Obj) (its : Array Value) (n : Nat), K.lookup a = some o ∧ o.cls = .type "list" ∧ o.dict = none ∧ o.data = .seq its n ∧ its.size ≤ sizeLine ∧ Vals xs its.toList
def SqT (K : PySem.W.Frag) (H : Hp) (a : Addr) (xs : List V) : Prop :=
  Rd H a (.tup xs) ∨
    ∃ (o : Obj) (its : Array Value) (n : Nat), K.lookup a = some o ∧ o.cls = .type "tuple" ∧ o.data = .seq its n ∧ its.size ≤ sizeLine ∧ Vals xs its.toList
def absV : Value → Option V
  | .none => some .non
  | .bool b => some (.bl b)
  | .int i _ => some (.int i)
  | .str x _ => some (.str x)
  | .bytes b _ => some (.byt b)
  | .float b _ => some (.flt b)
  | .ref a => some (.ref a)
  | .type n => some (.ty n)
  | _ => none
theorem RelV.abs {x : V} {u : Value} (r : RelV x u) : absV u = some x := by
  cases x with
  | non => cases r; rfl
  | bl _ => cases r; rfl
  | int _ => obtain ⟨t, rfl⟩ := r; rfl
  | str _ => obtain ⟨t, rfl⟩ := r; rfl
  | byt _ => obtain ⟨t, rfl⟩ := r; rfl
  | flt _ => obtain ⟨t, rfl⟩ := r; rfl
  | ref _ => cases r; rfl
  | ty _ => cases r; rfl
theorem RelV.inj {x y : V} {u : Value} (r : RelV x u) (q : RelV y u) : x = y := Option.some.inj (r.abs.symm.trans q.abs)
theorem Vals.inj : ∀ {xs ys : List V} {us : List Value}, Vals xs us → Vals ys us → xs = ys
  | _, _, _, .nil, .nil => rfl
  | _, _, _, .cons r t, .cons r' t' => by rw [r.inj r', Vals.inj t t']
section
variable {X : Cx} {pins : List (Addr × Obj)} {σ : St} {H : Hp} {s : Shared} {a : Addr} {xs ys : List V}
theorem SqL.of {K : PySem.W.Frag} (h : H a = some (.lst xs)) : SqL K H a xs := .inl (.inl h)
theorem SqT.of {K : PySem.W.Frag} (h : H a = some (.tup xs)) : SqT K H a xs := .inl (.inl h)
theorem Inv.list (I : Inv X pins σ H s) (h : SqL X.K H a xs) : ∃ its : List Value, Vals xs its ∧ PlainL s.heap a its.toArray ∧ xs.length ≤ sizeLine := by
  rcases h with h | ⟨o, its, n, hk, hc, hd, hs, hz, r⟩
  · obtain ⟨z, its, n, r, e⟩ := h.ok I.hok
    exact ⟨its, r, ⟨_, n, e, rfl, rfl, rfl⟩, z⟩
  · refine ⟨its.toList, r, ⟨o, n, I.kIn a o hk, hc, hd, by simpa using hs⟩, ?_⟩
    have e := r.length
    simp only [Array.length_toList] at e
    omega
theorem Inv.tuple (I : Inv X pins σ H s) (h : SqT X.K H a xs) : ∃ its : List Value, Vals xs its ∧ IsTup s.heap a its.toArray ∧ xs.length ≤ sizeLine := by
  rcases h with h | ⟨o, its, n, hk, hc, hs, hz, r⟩
  · obtain ⟨z, its, r, p⟩ := h.ok I.hok
    exact ⟨its, r, p, z⟩
  · refine ⟨its.toList, r, ⟨o, I.kIn a o hk, hc, n, by simpa using hs⟩, ?_⟩
    have e := r.length
    simp only [Array.length_toList] at e
    omega
theorem Inv.list_inj (I : Inv X pins σ H s) (h : SqL X.K H a xs) (h' : SqL X.K H a ys) : xs = ys := by
  obtain ⟨its, r, ⟨o, n, e, _, _, d⟩, _⟩ := I.list h
  obtain ⟨its', r', ⟨o', n', e', _, _, d'⟩, _⟩ := I.list h'
  rw [e] at e'; cases e'
  rw [d] at d'
  injection d' with d1 _
  have : its = its' := by simpa using congrArg Array.toList d1
  subst this
  exact r.inj r'
theorem Inv.tuple_inj (I : Inv X pins σ H s) (h : SqT X.K H a xs) (h' : SqT X.K H a ys) : xs = ys := by
  obtain ⟨its, r, ⟨o, e, _, n, d⟩, _⟩ := I.tuple h
  obtain ⟨its', r', ⟨o', e', _, n', d'⟩, _⟩ := I.tuple h'
  rw [e] at e'; cases e'
  rw [d] at d'
  injection d' with d1 _
  have : its = its' := by simpa using congrArg Array.toList d1
  subst this
  exact r.inj r'
end

/-! ### another wish about exceptions -/
abbrev Cx.wish (X : Cx) (E : Value → Shared → Prop) : Cx := { X with xe := E }
/-- no exception leaves -/
abbrev Cx.nox (X : Cx) : Cx := X.wish fun _ _ => False
theorem Cx.Ok.wish {X : Cx} (ok : X.Ok) (E : Value → Shared → Prop) : (X.wish E).Ok :=
  ⟨ok.mod, ok.kind, ok.glob, ok.blt, ok.above, ok.inj, ok.has, ok.cab, ok.hd, ok.frames, ok.stk, ok.exf, ok.bs, ok.bsz, ok.noex, ok.exfs, ok.funs, ok.frf⟩
theorem Cx.Ok.unwish {X : Cx} {E : Value → Shared → Prop} (ok : (X.wish E).Ok) : X.Ok :=
  ⟨ok.mod, ok.kind, ok.glob, ok.blt, ok.above, ok.inj, ok.has, ok.cab, ok.hd, ok.frames, ok.stk, ok.exf, ok.bs, ok.bsz, ok.noex, ok.exfs, ok.funs, ok.frf⟩
section
variable {X : Cx} {pins : List (Addr × Obj)} {σ : St} {H : Hp} {s : Shared} {E : Value → Shared → Prop}
theorem Inv.wish (I : Inv X pins σ H s) (E : Value → Shared → Prop) : Inv (X.wish E) pins σ H s := ⟨I.ok.wish E, I.os, I.bare, I.base, I.loc, I.cell, I.free, I.freeC, I.pin, I.hok, I.len⟩
theorem Inv.unwish (I : Inv (X.wish E) pins σ H s) : Inv X pins σ H s := ⟨I.ok.unwish, I.os, I.bare, I.base, I.loc, I.cell, I.free, I.freeC, I.pin, I.hok, I.len⟩
theorem SP.unwish {D : Ends} {f : Flow} {s' : Shared} (h : SP (X.wish E) pins D f s') : SP X pins D f s' := by
  cases f with
  | next => obtain ⟨σ', H', I, q⟩ := h; exact ⟨σ', H', I.unwish, q⟩
  | brk => obtain ⟨σ', H', I, q⟩ := h; exact ⟨σ', H', I.unwish, q⟩
  | cont => obtain ⟨σ', H', I, q⟩ := h; exact ⟨σ', H', I.unwish, q⟩
  | ret u => obtain ⟨v, σ', H', I, r, q⟩ := h; exact ⟨v, σ', H', I.unwish, r, q⟩
theorem PE.nox {e : Expr} {t : TE} (h : PE X.nox e t) : PE X e t := fun pins s σ H Q I hw =>
  wpAny_mono (h pins s σ H Q (I.wish _) hw) (fun _ _ ⟨v, H', I', r, q⟩ => ⟨v, H', I'.unwish, r, q⟩) fun _ _ z => False.elim z
theorem PT.nox {e : Expr} {t : TT} (h : PT X.nox e t) : PT X e t := fun pins s σ H Q I hw =>
  wpAny_mono (h pins s σ H Q (I.wish _) hw) (fun _ _ ⟨H', I', q⟩ => ⟨H', I'.unwish, q⟩) fun _ _ z => False.elim z
theorem PSs.nox {st : List Stmt} {t : TS} (h : PSs X.nox st t) : PSs X st t := fun pins s σ H D I hw =>
  wpAny_mono (h pins s σ H D (I.wish _) hw) (fun _ _ q => q.unwish) fun _ _ z => False.elim z
end

section
variable {X : Cx} {st : Stmt} {rest : List Stmt} {t u : TS} {e : Expr} {te : TE} {pos : Pos}
def tNext : TS := fun D σ H => D.nx σ H
def tSeq (t u : TS) : TS := fun D σ H => t { D with nx := u D } σ H
theorem pss_nil : PSs X [] tNext := fun _ _ σ H _ I h => wpAny_execs_nil ⟨σ, H, I, h⟩
theorem pss_cons (h1 : PS X st t) (h2 : PSs X rest u) : PSs X (st :: rest) (tSeq t u) := by
  intro pins s σ H D I h
  refine wpAny_execs_cons (thn (h1 pins s σ H { D with nx := u D } I h) fun f s1 q => ?_)
  cases f with
  | next =>
    obtain ⟨σ', H', I', q⟩ := q
    exact h2 pins s1 σ' H' D I' q
  | ret v => exact q
  | brk => exact q
  | cont => exact q
theorem pss_one (h1 : PS X st t) : PSs X [st] t := by
  intro pins s σ H D I h
  refine wpAny_execs_cons (thn (h1 pins s σ H D I h) fun f s1 q => ?_)
  cases f with
  | next => exact wpAny_execs_nil q
  | ret v => exact q
  | brk => exact q
  | cont => exact q
/-- in a def's body nothing is shown -/
theorem Inv.quiet {pins : List (Addr × Obj)} {σ : St} {H : Hp} {s : Shared} (I : Inv X pins σ H s) : interactive X.env = false := by simp [interactive, I.ok.kind]
/-- an expression whose value is dropped -/
def tDrop (te : TE) : TS := fun D σ H => te σ H fun _ H1 => D.nx σ H1
theorem ps_expr (he : PE X e te) (hs : swapsWith e none pos.line X.env = pure false := by rfl) : PS X (.Expr e pos) (tDrop te) := by
  intro pins s σ H D I h
  exact wpAny_Expr_any (thn (he pins s σ H _ I h) fun v s1 ⟨x, H1, I1, r1, q1⟩ => ⟨σ, H1, I1, q1⟩) I.quiet hs
def tRet (te : TE) : TS := fun D σ H => te σ H D.rt
theorem ps_ret (he : PE X e te) : PS X (.Return (some e) pos) (tRet te) := by
  intro pins s σ H D I h
  exact wpAny_Return_some (thn (he pins s σ H _ I h) fun v s1 ⟨x, H1, I1, r1, q1⟩ => ⟨x, σ, H1, I1, r1, q1⟩)
def tIfS (c : TT) (t u : TS) : TS := fun D σ H => c σ H fun b H1 => if b = true then t D σ H1 else u D σ H1
theorem ps_if {c : Expr} {a b : List Stmt} {tc : TT} (hc : PT X c tc) (ha : PSs X a t) (hb : PSs X b u) : PS X (.If c a b pos) (tIfS tc t u) := by
  intro pins s σ H D I h
  refine wpAny_If (thn (hc pins s σ H _ I h) fun d s1 ⟨H1, I1, q1⟩ => ?_)
  cases d with
  | true => exact ha pins s1 σ H1 D I1 q1
  | false => exact hb pins s1 σ H1 D I1 q1
/-- code that the proof never comes to -/
def tNever : TS := fun _ _ _ => False
theorem ps_never : PS X st tNever := fun _ _ _ _ _ _ h => h.elim
end

/-! ### targets -/
abbrev TG := V → St → Hp → (St → Hp → Prop) → Prop
abbrev TGs := List V → St → Hp → (St → Hp → Prop) → Prop
def PG (X : Cx) (target : Expr) (t : TG) : Prop :=
  ∀ (pins : List (Addr × Obj)) (s : Shared) (σ : St) (H : Hp) (v : V) (u : Value) (Q : St → Hp → Prop), Inv X pins σ H s → RelV v u → t v σ H Q →
    wpAny (model X.prog X.w) X.A (assign target X.env u) (fun _ s' => ∃ σ' H', Inv X pins σ' H' s' ∧ Q σ' H') X.xe s
/-- several targets, one after another -/
def PGs (X : Cx) (ts : List Expr) (t : TGs) : Prop :=
  ∀ (pins : List (Addr × Obj)) (s : Shared) (σ : St) (H : Hp) (vs : List V) (us : List Value) (Q : St → Hp → Prop), Inv X pins σ H s → Vals vs us → t vs σ H Q →
    wpAny (model X.prog X.w) X.A (assignInOrder ((assignEach ts X.env).map (·.2)) us) (fun _ s' => ∃ σ' H', Inv X pins σ' H' s' ∧ Q σ' H') X.xe s
/-- o[i] = v, by values -/
abbrev TSet := V → V → V → Hp → (Hp → Prop) → Prop
def PSet (X : Cx) (t : TSet) : Prop :=
  ∀ (pins : List (Addr × Obj)) (s : Shared) (σ : St) (H : Hp) (o i v : V) (ov iv u : Value) (Q : Hp → Prop), Inv X pins σ H s → RelV o ov → RelV i iv → RelV v u → t o i v H Q →
    wpAny (model X.prog X.w) X.A (setItem ov iv u) (fun _ s' => ∃ H', Inv X pins σ H' s' ∧ Q H') X.xe s
section
variable {X : Cx} {pos : Pos}
def gName (i : Nat) : TG := fun v σ H Q => Q (σ.set i (some v)) H
theorem pg_name {i : Nat} {x : Str} (hN : X.N.Nodup) (hi : X.N[i]? = some x) (hx : Loc X.env.scope x) (hf : X.fn x = true ∨ X.env.scope.names.lookup x = some .local := by first | exact .inl rfl | exact .inr rfl | assumption) : PG X (.Name x pos) (gName i) := by
  intro pins s σ H v u Q I r h
  exact wpAny_assign_Name (store_ok I hN hi hx r (fun s' I' => ⟨_, H, I', h⟩) hf)
def gNil : TGs := fun vs σ H Q => vs = [] ∧ Q σ H
def gCons (t : TG) (u : TGs) : TGs := fun vs σ H Q => ∃ v r, vs = v :: r ∧ t v σ H fun σ' H' => u r σ' H' Q
theorem pgs_nil : PGs X [] gNil := by
  intro pins s σ H vs us Q I r h
  obtain ⟨e, h⟩ := h
  subst e
  cases r
  exact assignInOrder_nil ⟨σ, H, I, h⟩
theorem pgs_cons {e : Expr} {es : List Expr} {t : TG} {u : TGs} (h1 : PG X e t) (h2 : PGs X es u)
    (hs : (assignEach (e :: es) X.env).map (·.2) = assign e X.env :: (assignEach es X.env).map (·.2) := by rfl) : PGs X (e :: es) (gCons t u) := by
  intro pins s σ H vs us Q I r h
  obtain ⟨v, vr, e1, h⟩ := h
  subst e1
  cases r with
  | cons r rr =>
    rw [hs]
    refine assignInOrder_cons (thn (h1 pins s σ H _ _ _ I r h) fun _ s1 ⟨σ1, H1, I1, q1⟩ => ?_)
    exact h2 pins s1 σ1 H1 _ _ Q I1 rr q1
/-- (a, b, ..) = a tuple of that length -/
def gTup (K : PySem.W.Frag) (n : Nat) (t : TGs) : TG := fun v σ H Q => ∃ a xs, v = .ref a ∧ SqT K H a xs ∧ xs.length = n ∧ t xs σ H Q
theorem pg_tup {es : List Expr} {k : Nat} {t : TGs} {n : Nat} (hc : X.calm = true) (h : PGs X es t)
    (hn : (assignEach es X.env).length = n := by rfl) (hst : (assignEach es X.env).findIdx? (·.1) = none := by rfl) : PG X (.Tuple es k pos) (gTup X.K n t) := by
  intro pins s σ H v u Q I r hw
  obtain ⟨a, xs, e1, hq, hl, hw⟩ := hw
  subst e1
  cases r
  obtain ⟨its, rv, ht, hz⟩ := I.tuple hq
  refine assign_Tuple_tuple (I.ok.hd hc) ht (by simp [hn, ← hl, rv.length]) hst fun h' hx => ?_
  have I1 : Inv X pins σ H { s with heap := h' } := I.kept (t' := s.toks) fun b o e => hx b o (Nat.ne_of_lt (Heap.lt_size e)) e
  exact h pins _ σ H xs _ Q I1 (by simpa using rv) hw
/-- o[i] = .. -/
def gSub (to ti : TE) (t : TSet) : TG := fun v σ H Q => to σ H fun o H1 => ti σ H1 fun i H2 => t o i v H2 fun H3 => Q σ H3
theorem pg_sub {o i : Expr} {to ti : TE} {t : TSet} (ho : PE X o to) (hi : PE X i ti) (hs : PSet X t)
    (ha : ∀ v, assign (.Subscript o i pos) X.env v = (do
      let ov ← holding [v] (eval o X.env)
      let iv ← holding [v, ov] (eval i X.env)
      standAt pos
      holding [v, ov, iv] (setItem ov iv v)
      release [v, ov, iv] []) := by intro _; rfl) : PG X (.Subscript o i pos) (gSub to ti t) := by
  intro pins s σ H v u Q I r h
  rw [ha]
  refine wpAny_bind (wpAny_holding (thn (ho pins s σ H _ I h) fun ov s1 ⟨x, H1, I1, r1, q1⟩ => ?_))
  refine wpAny_bind (wpAny_holding (thn (hi pins s1 σ H1 _ I1 q1) fun iv s2 ⟨y, H2, I2, r2, q2⟩ => ?_))
  refine wpAny_bind (wpAny_standAt (wpAny_bind (wpAny_holding (thn (hs pins s2 σ H2 x y v ov iv u _ I2 r1 r2 r q2) fun _ s3 ⟨H3, I3, q3⟩ => ?_))))
  exact wpAny_release ⟨σ, H3, I3, q3⟩
/-- target = value -/
def tAsg (te : TE) (g : TG) : TS := fun D σ H => te σ H fun x H1 => g x σ H1 D.nx
theorem ps_asg {tg e : Expr} {te : TE} {g : TG} (he : PE X e te) (hg : PG X tg g) (hs : swapsWithSole [tg] e pos.line X.env = pure false := by rfl) (hw : swappedStores [tg] e X.env = pure none := by rfl)
    (h1 : (assignEach [tg] X.env).map (·.2) = [assign tg X.env] := by rfl) : PS X (.Assign [tg] e pos) (tAsg te g) := by
  intro pins s σ H D I h
  refine wpAny_Assign_stores (thn (he pins s σ H _ I h) fun v s1 ⟨x, H1, I1, r1, q1⟩ => ?_) hs hw
  rw [h1]
  exact thn (hg pins s1 σ H1 x v _ I1 r1 q1) fun _ s2 q => q
/-- name = value -/
theorem ps_set {i : Nat} {x : Str} {e : Expr} {te : TE} {pos' : Pos} (hN : X.N.Nodup) (hi : X.N[i]? = some x) (hx : Loc X.env.scope x) (he : PE X e te) (hs : swapsWith e (some (.Name x pos')) pos.line X.env = pure false := by rfl) (hf : X.fn x = true ∨ X.env.scope.names.lookup x = some .local := by first | exact .inl rfl | exact .inr rfl | assumption) :
    PS X (.Assign [.Name x pos'] e pos) (tAsg te (gName i)) := by
  intro pins s σ H D I h
  refine wpAny_Assign_Name (thn (he pins s σ H _ I h) fun v s1 ⟨y, H1, I1, r1, q1⟩ => ?_) hs
  exact store_ok I1 hN hi hx r1 (fun s2 I2 => ⟨_, H1, I2, q1⟩) hf
/-- a, b = x, y with plain local names: stored from the right; the pair itself is not tracked (the opening rows as in PyProof/Rows/TupAssign.lean:23) -/
def tPar (i j : Nat) (ta : TA) : TS := fun D σ H => ta σ H fun vs H1 => ∃ v w, vs = [v, w] ∧ D.nx ((σ.set i (some v)).set j (some w)) H1
theorem ps_par {i j : Nat} {x y : Str} {a b : Expr} {ta : TA} {px py pt : Pos} {kt k2 pt2} (hc : X.calm = true) (hN : X.N.Nodup) (hi : X.N[i]? = some x) (hj : X.N[j]? = some y) (hij : i ≠ j)
    (hx : X.env.scope.names.lookup x = some .local) (hy : X.env.scope.names.lookup y = some .local) (ha : PA X [a, b] ta)
    (hw : swappedStores [.Tuple [.Name x px, .Name y py] kt pt] (.Tuple [a, b] k2 pt2) X.env = pure (some [x, y]))
    (hs : swapsWithSole [.Tuple [.Name x px, .Name y py] kt pt] (.Tuple [a, b] k2 pt2) pos.line X.env = pure false := by rfl) :
    PS X (.Assign [.Tuple [.Name x px, .Name y py] kt pt] (.Tuple [a, b] k2 pt2) pos) (tPar i j ta) := by
  intro pins s σ H D I h
  rw [exec_Assign_arm]
  refine wpAny_bind (wpAny_standAt ?_)
  rw [hs]
  refine wpAny_bind (wpAny_pure ?_)
  rw [if_neg (by decide)]
  refine wpAny_bind (Tuple_ (thn (ha _ pins s σ H _ I h) fun us s1 ⟨vs, H1, I1, r1, q1⟩ => ?_))
  obtain ⟨v, w, e1, q1⟩ := q1
  subst e1
  obtain ⟨u1, u2, rfl, rv, rw'⟩ : ∃ u1 u2, us = [u1, u2] ∧ RelV v u1 ∧ RelV w u2 := by
    cases r1 with
    | cons p q =>
      cases q with
      | cons p' q' =>
        cases q'
        exact ⟨_, _, rfl, p, p'⟩
  refine wpAny_newObj_type ?_ (by show 2 ≤ sizeLine; decide)
  have I2 : Inv X pins σ H1 { s1 with heap := s1.heap.push { cls := .type "tuple", data := .seq [u1, u2].toArray } } := I1.kept (t' := s1.toks) fun b o e => Heap.get?_push_of_some _ e
  rw [hw]
  refine wpAny_bind (wpAny_pure ?_)
  show wpAny (model X.prog X.w) X.A (do rule "assign.swapped-stores"; let items ← unpackItems (.ref s1.heap.objs.size) 2 none; assignInOrder [fun v => bindName X.env y v, fun v => bindName X.env x v] items.reverse; pure Flow.next) _ _ _
  refine wpAny_bind (wpAny_rule (wpAny_bind (unpackItems_tuple (items := #[u1, u2]) (I.ok.hd hc) (IsTup.new s1.heap _) fun h' hx' => ?_)))
  have I3 := I2.kept (h' := h') (t' := s1.toks) fun b o e => hx' b o (Nat.ne_of_lt (Heap.lt_size e)) e
  show wpAny _ _ (assignInOrder [fun v => bindName X.env y v, fun v => bindName X.env x v] [u2, u1] >>= fun _ => pure Flow.next) _ _ _
  refine wpAny_bind (assignInOrder_cons (wpAny_bindName (store_ok I3 hN hj (.inl hy) rw' (fun s2 I4 => ?_) (.inr hy))))
  refine assignInOrder_cons (wpAny_bindName (store_ok I4 hN hi (.inl hx) rv (fun s3 I5 => assignInOrder_nil (wpAny_pure ?_)) (.inr hx)))
  rw [List.set_comm _ _ (Ne.symm hij)] at I5
  exact ⟨_, H1, I5, q1⟩
end

section
variable {X : Cx} {pos : Pos}
/-- the invariant W with its measure -/
def tWhile (c : TT) (tb : TS) : TS := fun D σ H => ∃ W : Nat → St → Hp → Prop, (∃ m, W m σ H) ∧ ∀ m σ H, W m σ H →
  c σ H fun b H1 => if b = true then ∃ N : St → Hp → Prop, (∀ σ' H', N σ' H' → ∃ m', m' < m ∧ W m' σ' H') ∧ tb { D with nx := N, ct := N, bk := D.nx } σ H1 else D.nx σ H1
theorem ps_while {c : Expr} {body : List Stmt} {tc : TT} {tb : TS} (hp : PassesOwn (model X.prog X.w) X.A X.env X.xe) (hc : PT X c tc) (hb : PSs X body tb) : PS X (.While c body [] pos) (tWhile tc tb) := by
  intro pins s σ H D I h
  obtain ⟨W, ⟨m0, w0⟩, turn⟩ := h
  refine wpAny_While (codeAny_whileLoop (fun n s' => ∃ σ' H', Inv X pins σ' H' s' ∧ W n σ' H') ?_ m0 ⟨σ, H, I, w0⟩)
  rintro n s1 ⟨σ1, H1, I1, w1⟩
  refine wpAny_passesOwn hp (thn (hc pins s1 σ1 H1 _ I1 (turn n σ1 H1 w1)) fun b s2 ⟨H2, I2, q2⟩ => ?_)
  cases b with
  | true =>
    obtain ⟨N, hN, q2⟩ := q2
    rw [if_pos rfl]
    refine wpAny_passesOwn hp (thn (hb pins s2 σ1 H2 _ I2 q2) fun f s3 q3 => ?_)
    cases f with
    | next =>
      obtain ⟨σ3, H3, I3, n3⟩ := q3
      obtain ⟨m', hm, w3⟩ := hN σ3 H3 n3
      exact ⟨m', hm, σ3, H3, I3, w3⟩
    | cont =>
      obtain ⟨σ3, H3, I3, n3⟩ := q3
      obtain ⟨m', hm, w3⟩ := hN σ3 H3 n3
      exact ⟨m', hm, σ3, H3, I3, w3⟩
    | brk => exact q3
    | ret v => exact q3
  | false =>
    rw [if_neg Bool.false_ne_true]
    exact wpAny_execs_nil ⟨σ1, H2, I2, q2⟩
end

/-! ### what a loop or a comprehension walks -/
/-- at turn i: it yields x (the heap may grow), or it stops -/
structure It where
  go : Nat → Hp → Prop
  yld : Nat → Hp → V → Hp → Prop
  stop : Nat → Hp → Prop
/-- the iterator's own objects may turn: they are not the frame's, not pinned, younger than the entry (or a comprehension's own) -/
def FpOk (X : Cx) (pins : List (Addr × Obj)) (H : Hp) (b : Addr) : Prop :=
  H b = none ∧ b ≠ X.env.locals ∧ b ∉ X.fs ∧ (b ∈ X.ex ∨ X.s_0.heap.objs.size ≤ b) ∧ (∀ x c, X.env.cells.lookup x = some c → c ≠ b) ∧ ∀ p ∈ X.pn ++ pins, p.1 ≠ b
theorem Inv.fpOk {X : Cx} {pins : List (Addr × Obj)} {σ : St} {H H' : Hp} {s : Shared} {b : Addr} (I : Inv X pins σ H s) (hb : s.heap.objs.size ≤ b) (hn : H' b = none) : FpOk X pins H' b := by
  refine ⟨hn, Nat.ne_of_gt (Nat.lt_of_lt_of_le I.lt hb), I.nofs hb, .inr (Nat.le_trans I.sz hb), fun x c e z => ?_, fun p hp z => ?_⟩
  · obtain ⟨v, q⟩ := I.cell x c e
    exact absurd (Nat.lt_of_lt_of_le q.lt (by rw [z]; exact hb)) (Nat.lt_irrefl _)
  · exact absurd (Nat.lt_of_lt_of_le (Heap.lt_size (I.pin p hp).1) (by rw [z]; exact hb)) (Nat.lt_irrefl _)
structure Turn (P : Program) (w : World) (K : PySem.W.Frag) (tg : Expr) (J : It) (fp : List Addr) (it : Addr) (tn : Nat → Heap → Prop) : Prop where
  mem : it ∈ fp
  obj : ∀ i h, tn i h → ∀ b ∈ fp, ∃ o, h.get? b = some o ∧ ∀ v, o.data ≠ .cell v
  keep : ∀ i h h', tn i h → (∀ b ∈ fp, ∀ o, h.get? b = some o → h'.get? b = some o) → tn i h'
  item : ∀ (X : Cx), X.prog = P → X.w = w → X.K = K → X.calm = true → ∀ (i : Nat) (pins : List (Addr × Obj)) (s : Shared) (σ : St) (H : Hp) (E : Value → Shared → Prop), Inv X pins σ H s → (∀ b ∈ fp, FpOk X pins H b) → tn i s.heap → J.go i H →
    wpAny (model P w) X.A (pyNext (.ref it)) (fun r s1 => ∃ u, r = some u ∧
      wpAny (model P w) X.A (letOwnedTupleGo tg (.ref it) u) (fun _ s2 => ∃ x H', Inv X pins σ H' s2 ∧ RelV x u ∧ J.yld i H x H' ∧ tn (i + 1) s2.heap ∧ ∀ b ∈ fp, H' b = none) E s1) E s
  done : ∀ (X : Cx), X.prog = P → X.w = w → X.K = K → X.calm = true → ∀ (i : Nat) (pins : List (Addr × Obj)) (s : Shared) (σ : St) (H : Hp) (E : Value → Shared → Prop), Inv X pins σ H s → (∀ b ∈ fp, FpOk X pins H b) → tn i s.heap → J.stop i H →
    wpAny (model P w) X.A (pyNext (.ref it)) (fun r s1 => r = none ∧ Inv X pins σ H s1) E s
  self : ∀ (A : Around) (i : Nat) (s : Shared) (Q : Value → Shared → Prop) (E : Value → Shared → Prop), tn i s.heap → Q (.ref it) s → wpAny (model P w) A (pyIter (.ref it)) Q E s
abbrev TI := St → Hp → (It → Hp → Prop) → Prop
/-- an iterator has come -/
def PIE (X : Cx) (pins : List (Addr × Obj)) (σ : St) (tg : Expr) (R : It → Hp → Prop) (itv : Value) (s2 : Shared) : Prop :=
  ∃ (it : Addr) (fp : List Addr) (tn : Nat → Heap → Prop) (J : It) (H' : Hp), itv = .ref it ∧ Inv X pins σ H' s2 ∧ Turn X.prog X.w X.K tg J fp it tn ∧ tn 0 s2.heap ∧ (∀ b ∈ fp, FpOk X pins H' b) ∧ R J H'
def PI (X : Cx) (tg iter : Expr) (wi : TI) : Prop :=
  ∀ (pins : List (Addr × Obj)) (s : Shared) (σ : St) (H : Hp) (R : It → Hp → Prop), Inv X pins σ H s → wi σ H R →
    wpAny (model X.prog X.w) X.A (eval iter X.env) (fun v s1 => wpAny (model X.prog X.w) X.A (pyIter v) (PIE X pins σ tg R) X.xe s1) X.xe s

/-- the step ahead of the store is nothing for an iterator that keeps no tuple -/
theorem go_of {M : Model} {A : Around} {E : Value → Shared → Prop} {s : Shared} {tg : Expr} {it : Addr} {u : Value} {o : Obj} {n : String} {vs : Array Value} {Q : Unit → Shared → Prop} (ho : s.heap.get? it = some o) (hc : o.cls = .type n) (hd : o.data = .fields vs)
    (hn : ["enumerate", "zip", "dict_itemiterator", "dict_reverseitemiterator", "odict_iterator", "itertools.zip_longest", "itertools.pairwise"].contains n = false) (hQ : Q () s) : wpAny M A (letOwnedTupleGo tg (.ref it) u) Q E s := by
  unfold letOwnedTupleGo
  cases tg <;> first
    | exact wpAny_pure hQ
    | (cases u <;> first
        | exact wpAny_pure hQ
        | (refine wpAny_bind (wpAny_load ho ?_)
           rw [hc, hd]
           show wpAny M A (if (["enumerate", "zip", "dict_itemiterator", "dict_reverseitemiterator", "odict_iterator", "itertools.zip_longest", "itertools.pairwise"].contains n && vs[0]? == some (rawInt _)) = true then _ else _) Q E s
           rw [if_neg (by intro h; rw [hn, Bool.false_and] at h; cases h)]
           exact wpAny_pure hQ))

/-- the list at a, as it stands at each turn (a loop may append to it) -/
def Itl (K : PySem.W.Frag) (a : Addr) : It :=
  ⟨fun i H => ∃ xs x, SqL K H a xs ∧ xs[i]? = some x, fun i H x H' => H' = H ∧ ∀ xs, SqL K H a xs → xs[i]? = some x, fun i H => ∃ xs, SqL K H a xs ∧ xs.length ≤ i⟩
def Itt (K : PySem.W.Frag) (a : Addr) : It :=
  ⟨fun i H => ∃ xs x, SqT K H a xs ∧ xs[i]? = some x, fun i H x H' => H' = H ∧ ∀ xs, SqT K H a xs → xs[i]? = some x, fun i H => ∃ xs, SqT K H a xs ∧ xs.length ≤ i⟩
/-- lo, lo + 1, .. (n of them) -/
def Itr (lo : Int) (n : Nat) : It := ⟨fun i _ => i < n, fun i H x H' => H' = H ∧ x = .int (lo + i), fun i _ => n ≤ i⟩
theorem turn_list {P : Program} {w : World} {K : PySem.W.Frag} {tg : Expr} (a it : Addr) : Turn P w K tg (Itl K a) [it] it (fun i h => h.IsListIter it a i) where
  mem := by simp
  obj := fun i h st b hb => by
    have e : b = it := by simpa using hb
    subst e
    obtain ⟨o, e, c, d⟩ := st
    exact ⟨o, e, fun v z => by rw [d] at z; cases z⟩
  keep := fun i h h' st k => st.at fun o e => k it (by simp) o e
  item := by
    intro X hP hw hK hc i pins s σ H E I hf st hg
    subst hP hw hK
    obtain ⟨xs, x, hq, hx⟩ := hg
    obtain ⟨its, rv, p, hz⟩ := I.list hq
    obtain ⟨u, hu, ru⟩ := rv.get hx
    obtain ⟨f0, f1, f2, f3, f4, f5⟩ := hf it (by simp)
    refine wpAny_pyNext_list_item st p.isList (x := u) (by simpa using hu) fun h' st' sb => ?_
    have I1 : Inv X pins σ H { s with heap := h' } := I.turned (t' := s.toks) (fun b o hb e => (sb.2 b hb).trans e) f0 f1 f3 f4 f5
    obtain ⟨o, e, c, d⟩ := id st'
    exact ⟨u, rfl, go_of (s := { s with heap := h' }) e c d (by decide) ⟨x, H, I1, ru, ⟨rfl, fun ys hy => by rw [I.list_inj hy hq]; exact hx⟩, st', fun b hb => (hf b hb).1⟩⟩
  done := by
    intro X hP hw hK hc i pins s σ H E I hf st hg
    subst hP hw hK
    obtain ⟨xs, hq, hx⟩ := hg
    obtain ⟨its, rv, p, hz⟩ := I.list hq
    obtain ⟨f0, f1, f2, f3, f4, f5⟩ := hf it (by simp)
    have hl := rv.length
    exact wpAny_pyNext_list_end (I.ok.hd hc) st p.isList (by simp; omega) fun h' eb => ⟨rfl, I.turned (t' := s.toks) (fun b o hb e => eb b o hb e) f0 f1 f3 f4 f5⟩
  self := fun _ _ _ _ _ st h => wpAny_pyIter_listiter st h
theorem turn_tuple {P : Program} {w : World} {K : PySem.W.Frag} {tg : Expr} (a it : Addr) : Turn P w K tg (Itt K a) [it] it (fun i h => h.IsTupleIter it a i) where
  mem := by simp
  obj := fun i h st b hb => by
    have e : b = it := by simpa using hb
    subst e
    obtain ⟨o, e, c, d⟩ := st
    exact ⟨o, e, fun v z => by rw [d] at z; cases z⟩
  keep := fun i h h' st k => st.at fun o e => k it (by simp) o e
  item := by
    intro X hP hw hK hc i pins s σ H E I hf st hg
    subst hP hw hK
    obtain ⟨xs, x, hq, hx⟩ := hg
    obtain ⟨its, rv, p, hz⟩ := I.tuple hq
    obtain ⟨u, hu, ru⟩ := rv.get hx
    obtain ⟨f0, f1, f2, f3, f4, f5⟩ := hf it (by simp)
    refine wpAny_pyNext_tuple_item st (show s.heap.IsTuple a its.toArray from p) (x := u) (by simpa using hu) fun h' st' sb => ?_
    have I1 : Inv X pins σ H { s with heap := h' } := I.turned (t' := s.toks) (fun b o hb e => (sb.2 b hb).trans e) f0 f1 f3 f4 f5
    obtain ⟨o, e, c, d⟩ := id st'
    exact ⟨u, rfl, go_of (s := { s with heap := h' }) e c d (by decide) ⟨x, H, I1, ru, ⟨rfl, fun ys hy => by rw [I.tuple_inj hy hq]; exact hx⟩, st', fun b hb => (hf b hb).1⟩⟩
  done := by
    intro X hP hw hK hc i pins s σ H E I hf st hg
    subst hP hw hK
    obtain ⟨xs, hq, hx⟩ := hg
    obtain ⟨its, rv, p, hz⟩ := I.tuple hq
    obtain ⟨f0, f1, f2, f3, f4, f5⟩ := hf it (by simp)
    have hl := rv.length
    exact wpAny_pyNext_tuple_end (I.ok.hd hc) st (show s.heap.IsTuple a its.toArray from p) (by simp; omega) fun h' eb => ⟨rfl, I.turned (t' := s.toks) (fun b o hb e => eb b o hb e) f0 f1 f3 f4 f5⟩
  self := fun _ _ _ _ _ st h => wpAny_pyIter_tupleiter st h
theorem turn_range {P : Program} {w : World} {K : PySem.W.Frag} {tg : Expr} (it : Addr) (lo : Int) (n : Nat) : Turn P w K tg (Itr lo n) [it] it (fun i h => IsRangeIter h it (lo + (i : Nat) * 1) ((n : Int) - (i : Nat)) 1) where
  mem := by simp
  obj := fun i h st b hb => by
    have e : b = it := by simpa using hb
    subst e
    exact ⟨_, st, fun v z => by
      have z' : Data.fields _ = Data.cell v := z
      cases z'⟩
  keep := fun i h h' st k => k it (by simp) _ st
  item := by
    intro X hP hw hK hc i pins s σ H E I hf st hg
    subst hP hw hK
    obtain ⟨f0, f1, f2, f3, f4, f5⟩ := hf it (by simp)
    have W := Walks.range (prog := X.prog) (w := X.w) (I.ok.hd hc) it lo 1 n
    refine W.item i s _ _ hg st fun v h' tk hv st' kk => ?_
    obtain ⟨t, rfl⟩ := hv
    have I1 : Inv X pins σ H { s with heap := h', toks := tk } := I.turned (fun b o hb e => kk b o (by simpa using hb) e) f0 f1 f3 f4 f5
    refine ⟨_, rfl, go_of (s := { s with heap := h', toks := tk }) (n := "range_iterator") st' rfl rfl (by decide) ⟨.int (lo + i), H, I1, ⟨t, ?_⟩, ⟨rfl, rfl⟩, st', fun b hb => (hf b hb).1⟩⟩
    rw [Int.mul_one]
  done := by
    intro X hP hw hK hc i pins s σ H E I hf st hg
    subst hP hw hK
    obtain ⟨f0, f1, f2, f3, f4, f5⟩ := hf it (by simp)
    exact wpAny_pyNext_range_end (I.ok.hd hc) st (by have : n ≤ i := hg; omega) fun h' eb => ⟨rfl, I.turned (t' := s.toks) (fun b o hb e => eb b o hb e) f0 f1 f3 f4 f5⟩
  self := fun _ _ _ _ _ st h => wpAny_pyIter_rangeiter st h
end L2

namespace L2
open PySem PySem.Spec PyProof.Rows
section
variable {X : Cx} {tg : Expr}
def iList (K : PySem.W.Frag) (tl : TE) : TI := fun σ H R => tl σ H fun x H1 => ∃ a, x = .ref a ∧ (∃ xs, SqL K H1 a xs) ∧ R (Itl K a) H1
def iTup (K : PySem.W.Frag) (tl : TE) : TI := fun σ H R => tl σ H fun x H1 => ∃ a, x = .ref a ∧ (∃ xs, SqT K H1 a xs) ∧ R (Itt K a) H1
theorem pi_list {l : Expr} {tl : TE} (hl : PE X l tl) : PI X tg l (iList X.K tl) := by
  intro pins s σ H R I h
  refine thn (hl pins s σ H _ I h) fun v s1 ⟨x, H1, I1, r1, q1⟩ => ?_
  obtain ⟨a, e, ⟨xs, hq⟩, q⟩ := q1
  subst e
  cases r1
  obtain ⟨its, rv, p, hz⟩ := I1.list hq
  refine wpAny_pyIter_list p.isList ?_
  refine ⟨s1.heap.objs.size, [s1.heap.objs.size], _, _, H1, rfl, I1.kept (t' := s1.toks) fun b o e => Heap.get?_push_of_some _ e, turn_list a _, ⟨_, Heap.get?_push_size _ rfl, rfl, rfl⟩, fun b hb => ?_, q⟩
  have e : b = s1.heap.objs.size := by simpa using hb
  subst e
  exact I1.fpOk (Nat.le_refl _) (I1.hok.fresh (Nat.le_refl _))
theorem pi_tup {l : Expr} {tl : TE} (hl : PE X l tl) : PI X tg l (iTup X.K tl) := by
  intro pins s σ H R I h
  refine thn (hl pins s σ H _ I h) fun v s1 ⟨x, H1, I1, r1, q1⟩ => ?_
  obtain ⟨a, e, ⟨xs, hq⟩, q⟩ := q1
  subst e
  cases r1
  obtain ⟨its, rv, p, hz⟩ := I1.tuple hq
  refine wpAny_pyIter_tuple (show s1.heap.IsTuple a its.toArray from p) ?_
  refine ⟨s1.heap.objs.size, [s1.heap.objs.size], _, _, H1, rfl, I1.kept (t' := s1.toks) fun b o e => Heap.get?_push_of_some _ e, turn_tuple a _, ⟨_, Heap.get?_push_size _ rfl, rfl, rfl⟩, fun b hb => ?_, q⟩
  have e : b = s1.heap.objs.size := by simpa using hb
  subst e
  exact I1.fpOk (Nat.le_refl _) (I1.hok.fresh (Nat.le_refl _))
/-- a range object just made, walked -/
theorem range_it {pins : List (Addr × Obj)} {σ : St} {H : Hp} {s : Shared} {R : It → Hp → Prop} {E : Value → Shared → Prop} {lo hi : Int} {t u v : Tok} {tk : Nat} (I : Inv X pins σ H s) (h1 : -(2 ^ 62) ≤ lo) (h2 : lo < 2 ^ 62) (h3 : -(2 ^ 62) ≤ hi) (h4 : hi < 2 ^ 62)
    (q : R (Itr lo (hi - lo).toNat) H) : wpAny (model X.prog X.w) X.A (pyIter (.ref s.heap.objs.size)) (PIE X pins σ tg R) E { s with heap := s.heap.push { cls := .type "range", data := .fields #[.int lo t, .int hi u, .int 1 v] }, toks := tk } := by
  refine wpAny_pyIter_range (IsRange.new ..) (small_one h1 h2 h3 h4) ?_
  have I1 : Inv X pins σ H { s with heap := s.heap.push { cls := .type "range", data := .fields #[.int lo t, .int hi u, .int 1 v] }, toks := tk } := I.kept fun b o e => Heap.get?_push_of_some _ e
  refine ⟨(s.heap.push { cls := .type "range", data := .fields #[.int lo t, .int hi u, .int 1 v] }).objs.size, [(s.heap.push { cls := .type "range", data := .fields #[.int lo t, .int hi u, .int 1 v] }).objs.size], _, _, H, rfl,
    I1.kept (t' := tk) fun b o e => Heap.get?_push_of_some _ e, turn_range _ lo (hi - lo).toNat, ?_, fun b hb => ?_, q⟩
  · have e1 : lo + ((0 : Nat) : Int) * 1 = lo := by simp
    have e2 : (((hi - lo).toNat : Nat) : Int) - ((0 : Nat) : Int) = Builtin.Range.rangeSize lo hi 1 := by rw [rangeSize_one]; split <;> omega
    show IsRangeIter _ _ (lo + ((0 : Nat) : Int) * 1) ((((hi - lo).toNat : Nat) : Int) - ((0 : Nat) : Int)) 1
    rw [e1, e2]
    exact Heap.get?_push_size _ rfl
  · have e : b = (s.heap.push { cls := .type "range", data := .fields #[.int lo t, .int hi u, .int 1 v] }).objs.size := by simpa using hb
    subst e
    exact I1.fpOk (Nat.le_refl _) (I1.hok.fresh (Nat.le_refl _))
def iRng1 (ta : TA) : TI := fun σ H R => ta σ H fun vs H1 => ∃ j : Int, vs = [.int j] ∧ -(2 ^ 62) ≤ j ∧ j < 2 ^ 62 ∧ R (Itr 0 j.toNat) H1
theorem pi_range1 {a : Expr} {ta : TA} {p pos : Pos} (hg : Gl X "range") (hm : X.mg "range" = none) (ha : PA X [a] ta) (hs : starEach [a] X.env = [(false, eval a X.env)] := by rfl) : PI X tg (.Call (.Name "range" p) [a] [] pos) (iRng1 ta) := by
  intro pins s σ H R I h
  refine Call_ (ld_blt I hg hm boot_range (PyProof.Rows.callWith_type1 (thn (ha pos pins s σ H _ I h) fun us s1 ⟨vs, H1, I1, r1, q1⟩ => ?_) hs rfl))
  obtain ⟨j, e, q1, q2, q⟩ := q1
  subst e
  cases r1 with
  | cons r rr =>
    cases rr
    obtain ⟨t, rfl⟩ := r
    exact call_range_1 (range_it I1 (by omega) (by omega) q1 q2 (by simpa using q))
/-! ### for -/
/-- W: the invariant by the turn and a measure; N: what the body is to reach -/
def tFor (wi : TI) (g : TG) (tb : TS) : TS := fun D σ H => wi σ H fun J H1 => ∃ W : Nat → Nat → St → Hp → Prop, (∃ m, W 0 m σ H1) ∧ ∀ i m σ H, W i m σ H →
  (J.stop i H ∧ D.nx σ H) ∨ (J.go i H ∧ ∃ N : St → Hp → Prop, (∀ σ' H', N σ' H' → ∃ m', m' < m ∧ W (i + 1) m' σ' H') ∧ ∀ x H', J.yld i H x H' → g x σ H' fun σ2 H2 => tb { D with nx := N, ct := N, bk := D.nx } σ2 H2)
/-- the records at fp as they stand -/
def pinsAt (fp : List Addr) (h : Heap) : List (Addr × Obj) := fp.filterMap fun b => (h.get? b).map fun o => (b, o)
theorem mem_pinsAt {fp : List Addr} {h : Heap} {b : Addr} {o : Obj} (hb : b ∈ fp) (e : h.get? b = some o) : (b, o) ∈ pinsAt fp h := List.mem_filterMap.mpr ⟨b, hb, by rw [e]; rfl⟩
theorem of_pinsAt {fp : List Addr} {h : Heap} {p : Addr × Obj} (hp : p ∈ pinsAt fp h) : p.1 ∈ fp ∧ h.get? p.1 = some p.2 := by
  obtain ⟨b, hb, e⟩ := List.mem_filterMap.mp hp
  cases q : h.get? b with
  | none => rw [q] at e; cases e
  | some o =>
    rw [q] at e
    have e' : (b, o) = p := Option.some.inj e
    subst e'
    exact ⟨hb, q⟩
theorem Inv.pinned {pins : List (Addr × Obj)} {σ : St} {H : Hp} {s : Shared} {fp : List Addr} (I : Inv X pins σ H s) (hf : ∀ b ∈ fp, FpOk X pins H b) (ho : ∀ b ∈ fp, ∃ o, s.heap.get? b = some o ∧ ∀ v, o.data ≠ .cell v) : Inv X (pins ++ pinsAt fp s.heap) σ H s :=
  I.pins_of fun p hp => (List.mem_append.mp hp).elim (fun z => I.pin p (List.mem_append_right _ z)) fun z => by
    obtain ⟨hb, e⟩ := of_pinsAt z
    obtain ⟨f0, f1, f2, _⟩ := hf p.1 hb
    obtain ⟨o, e', d⟩ := ho p.1 hb
    rw [e] at e'; cases e'
    exact ⟨e, f0, f1, f2, d⟩
theorem Inv.unpinned {pins pl : List (Addr × Obj)} {σ : St} {H : Hp} {s : Shared} (I : Inv X (pins ++ pl) σ H s) : Inv X pins σ H s := I.pins_of fun p hp => I.pin p (List.mem_append_right _ (List.mem_append_left _ hp))
theorem ps_for {iter : Expr} {body : List Stmt} {wi : TI} {g : TG} {tb : TS} {pos : Pos} (hp : PassesOwn (model X.prog X.w) X.A X.env X.xe) (hc : X.calm = true) (hi : PI X tg iter wi) (hg : PG X tg g) (hb : PSs X body tb)
    (hs : ∀ x, foldedSetIterable iter X.env x = pure x := by intro _; rfl) : PS X (.For tg iter body [] pos) (tFor wi g tb) := by
  intro pins s σ H D I h
  refine wpAny_For (thn (hi pins s σ H _ I h) fun v s1 h1 => thn h1 fun itv s2 h2 => ?_) hs
  obtain ⟨it, fp, tn, J, H2, e, I2, T, st2, f2, W, ⟨m0, w0⟩, turn⟩ := h2
  subst e
  -- what stays true of the iterator's objects through the loop
  have stat : ∀ {H' : Hp}, (∀ b ∈ fp, H' b = none) → ∀ b ∈ fp, FpOk X pins H' b := fun hn b hb => ⟨hn b hb, (f2 b hb).2⟩
  refine codeAny_forLoop_any (fun n s' => ∃ i σ' H', Inv X pins σ' H' s' ∧ tn i s'.heap ∧ (∀ b ∈ fp, H' b = none) ∧ W i n σ' H') ?_ m0 ⟨0, σ, H2, I2, st2, fun b hb => (f2 b hb).1, w0⟩
  rintro n s3 ⟨i, σ3, H3, I3, st3, fr3, w3⟩
  rcases turn i n σ3 H3 w3 with ⟨stop, qn⟩ | ⟨go, N, hN, step⟩
  · refine wpAny_passesOwn hp (thn (T.done X rfl rfl rfl hc i pins s3 σ3 H3 X.xe I3 (stat fr3) st3 stop) fun r s4 ⟨hr, I4⟩ => ?_)
    subst hr
    exact wpAny_execs_nil ⟨σ3, H3, I4, qn⟩
  · refine wpAny_passesOwn hp (thn (T.item X rfl rfl rfl hc i pins s3 σ3 H3 X.xe I3 (stat fr3) st3 go) fun r s4 ⟨u, hr, h4⟩ => ?_)
    subst hr
    refine wpAny_passesOwn hp (thn h4 fun _ s5 ⟨x, H5, I5, r5, y5, st5, fr5⟩ => ?_)
    have I5' := I5.pinned (stat fr5) (T.obj _ _ st5)
    refine wpAny_passesOwn hp (thn (hg _ s5 σ3 H5 x u _ I5' r5 (step x H5 y5)) fun _ s6 ⟨σ6, H6, I6, q6⟩ => ?_)
    refine wpAny_passesOwn hp (thn (hb _ s6 σ6 H6 _ I6 q6) fun f s7 q7 => ?_)
    have again : ∀ {σ7 : St} {H7 : Hp}, Inv X (pins ++ pinsAt fp s5.heap) σ7 H7 s7 → N σ7 H7 → ∃ m, m < n ∧ ∃ i σ' H', Inv X pins σ' H' s7 ∧ tn i s7.heap ∧ (∀ b ∈ fp, H' b = none) ∧ W i m σ' H' := fun {σ7 H7} I7 n7 => by
      obtain ⟨m', hm, w7⟩ := hN σ7 H7 n7
      refine ⟨m', hm, i + 1, σ7, H7, I7.unpinned, T.keep _ _ _ st5 fun b hb o e => (I7.pin (b, o) (List.mem_append_right _ (List.mem_append_right _ (mem_pinsAt hb e)))).1, fun b hb => ?_, w7⟩
      obtain ⟨o, e, d⟩ := T.obj _ _ st5 b hb
      exact (I7.pin (b, o) (List.mem_append_right _ (List.mem_append_right _ (mem_pinsAt hb e)))).2.1
    cases f with
    | next => obtain ⟨σ7, H7, I7, n7⟩ := q7; exact again I7 n7
    | cont => obtain ⟨σ7, H7, I7, n7⟩ := q7; exact again I7 n7
    | brk => obtain ⟨σ7, H7, I7, q7⟩ := q7; exact ⟨σ7, H7, I7.unpinned, q7⟩
    | ret v => obtain ⟨x7, σ7, H7, I7, r7, q7⟩ := q7; exact ⟨x7, σ7, H7, I7.unpinned, r7, q7⟩
end

/-! ### the forms one uses -/
/-- over a list that the body leaves as it is -/
theorem for_list {K : PySem.W.Frag} {a : Addr} {xs : List V} {g : TG} {tb : TS} {D : Ends} {σ : St} {H : Hp} (Pv : Nat → St → Hp → Prop) (h0 : Pv 0 σ H) (hl : ∀ i σ H, i ≤ xs.length → Pv i σ H → SqL K H a xs)
    (hs : ∀ i x σ H, xs[i]? = some x → Pv i σ H → g x σ H fun σ2 H2 => tb { D with nx := Pv (i + 1), ct := Pv (i + 1), bk := D.nx } σ2 H2) (hd : ∀ σ H, Pv xs.length σ H → D.nx σ H) :
    ∃ W : Nat → Nat → St → Hp → Prop, (∃ m, W 0 m σ H) ∧ ∀ i m σ H, W i m σ H →
      ((Itl K a).stop i H ∧ D.nx σ H) ∨ ((Itl K a).go i H ∧ ∃ N : St → Hp → Prop, (∀ σ' H', N σ' H' → ∃ m', m' < m ∧ W (i + 1) m' σ' H') ∧ ∀ x H', (Itl K a).yld i H x H' → g x σ H' fun σ2 H2 => tb { D with nx := N, ct := N, bk := D.nx } σ2 H2) := by
  refine ⟨fun i m σ H => m = xs.length - i ∧ i ≤ xs.length ∧ Pv i σ H, ⟨xs.length, by simp, Nat.zero_le _, h0⟩, ?_⟩
  rintro i m σ H ⟨rfl, hi, p⟩
  have q := hl i σ H hi p
  by_cases hlt : i < xs.length
  · refine .inr ⟨⟨xs, xs[i], q, by simp [hlt]⟩, Pv (i + 1), fun σ' H' p' => ⟨xs.length - (i + 1), by omega, rfl, hlt, p'⟩, fun x H' y => ?_⟩
    obtain ⟨e, y⟩ := y
    subst e
    exact hs i x σ _ (y xs q) p
  · have e : i = xs.length := by omega
    subst e
    exact .inl ⟨⟨xs, q, Nat.le_refl _⟩, hd σ H p⟩
theorem for_range {lo : Int} {n : Nat} {g : TG} {tb : TS} {D : Ends} {σ : St} {H : Hp} (Pv : Nat → St → Hp → Prop) (h0 : Pv 0 σ H)
    (hs : ∀ i σ H, i < n → Pv i σ H → g (.int (lo + i)) σ H fun σ2 H2 => tb { D with nx := Pv (i + 1), ct := Pv (i + 1), bk := D.nx } σ2 H2) (hd : ∀ σ H, Pv n σ H → D.nx σ H) :
    ∃ W : Nat → Nat → St → Hp → Prop, (∃ m, W 0 m σ H) ∧ ∀ i m σ H, W i m σ H →
      ((Itr lo n).stop i H ∧ D.nx σ H) ∨ ((Itr lo n).go i H ∧ ∃ N : St → Hp → Prop, (∀ σ' H', N σ' H' → ∃ m', m' < m ∧ W (i + 1) m' σ' H') ∧ ∀ x H', (Itr lo n).yld i H x H' → g x σ H' fun σ2 H2 => tb { D with nx := N, ct := N, bk := D.nx } σ2 H2) := by
  refine ⟨fun i m σ H => m = n - i ∧ i ≤ n ∧ Pv i σ H, ⟨n, by simp, Nat.zero_le _, h0⟩, ?_⟩
  rintro i m σ H ⟨rfl, hi, p⟩
  by_cases hlt : i < n
  · refine .inr ⟨hlt, Pv (i + 1), fun σ' H' p' => ⟨n - (i + 1), by omega, rfl, hlt, p'⟩, fun x H' y => ?_⟩
    obtain ⟨e, y⟩ := y
    subst e y
    exact hs i σ _ hlt p
  · have e : i = n := by omega
    subst e
    exact .inl ⟨Nat.le_refl _, hd σ H p⟩
end L2

namespace L2
open PySem PySem.Spec PyProof.Rows

abbrev R2 := V → V → Hp → VK → Prop
/-- a two-place operation on values: f is binaryOp op, inplaceOp op or compareOp op -/
def OpR (X : Cx) (f : Value → Value → Sem Value) (r : R2) : Prop :=
  ∀ (pins : List (Addr × Obj)) (s : Shared) (σ : St) (H : Hp) (x y : V) (v u : Value) (Q : VK), Inv X pins σ H s → RelV x v → RelV y u → r x y H Q →
    wpAny (model X.prog X.w) X.A (f v u) (EP X pins σ Q) X.xe s
/-- a one-place operation -/
def UnR (X : Cx) (f : Value → Sem Value) (r : V → Hp → VK → Prop) : Prop :=
  ∀ (pins : List (Addr × Obj)) (s : Shared) (σ : St) (H : Hp) (x : V) (v : Value) (Q : VK), Inv X pins σ H s → RelV x v → r x H Q →
    wpAny (model X.prog X.w) X.A (f v) (EP X pins σ Q) X.xe s
/-- a call of a value that is known (a builtin, a type) with values -/
def CallR (X : Cx) (f : Value) (r : List V → Hp → VK → Prop) : Prop :=
  ∀ (pins : List (Addr × Obj)) (s : Shared) (σ : St) (H : Hp) (xs : List V) (us : List Value) (Q : VK), Inv X pins σ H s → Vals xs us → r xs H Q →
    wpAny (model X.prog X.w) X.A (call f us) (EP X pins σ Q) X.xe s
/-- a value's truth -/
def TruR (X : Cx) (r : V → Hp → (Bool → Hp → Prop) → Prop) : Prop :=
  ∀ (pins : List (Addr × Obj)) (s : Shared) (σ : St) (H : Hp) (x : V) (v : Value) (Q : Bool → Hp → Prop), Inv X pins σ H s → RelV x v → r x H Q →
    wpAny (model X.prog X.w) X.A (truthy v) (TP X pins σ Q) X.xe s

def tOp (r : R2) (ta tb : TE) : TE := fun σ H Q => ta σ H fun x H1 => tb σ H1 fun y H2 => r x y H2 Q
def tUn (r : V → Hp → VK → Prop) (ta : TE) : TE := fun σ H Q => ta σ H fun x H1 => r x H1 Q
/-- ints in, under C, and a value out -/
def rI (C : Int → Int → Prop) (g : Int → Int → V) : R2 := fun x y H Q => ∃ i j, x = .int i ∧ y = .int j ∧ C i j ∧ Q (g i j) H
def rI0 (g : Int → Int → V) : R2 := fun x y H Q => ∃ i j, x = .int i ∧ y = .int j ∧ Q (g i j) H
def rU (g : Int → V) : V → Hp → VK → Prop := fun x H Q => ∃ i, x = .int i ∧ Q (g i) H

section
variable {X : Cx} {a b c : Expr} {ta tb tc : TE} {pos : Pos}

theorem binT (ha : PE X a ta) (hb : PE X b tb) {pins : List (Addr × Obj)} {s : Shared} {σ : St} {H : Hp} {R : V → V → Hp → Prop} (I : Inv X pins σ H s)
    (h : ta σ H fun x H1 => tb σ H1 fun y H2 => R x y H2) {Q : Value → Shared → Prop} {f : Value → Value → Sem Value}
    (hf : ∀ v u s2 x y H2, Inv X pins σ H2 s2 → RelV x v → RelV y u → R x y H2 → wpAny (model X.prog X.w) X.A (f v u) Q X.xe s2) :
    wpAny (model X.prog X.w) X.A (eval a X.env) (fun v s₁ => wpAny (model X.prog X.w) X.A (eval b X.env) (fun u s₂ => wpAny (model X.prog X.w) X.A (f v u) Q X.xe s₂) X.xe s₁) X.xe s := by
  refine thn (ha pins s σ H _ I h) fun v s1 ⟨x, H1, I1, r1, q1⟩ => ?_
  refine thn (hb pins s1 σ H1 _ I1 q1) fun u s2 ⟨y, H2, I2, r2, q2⟩ => ?_
  exact hf v u s2 x y H2 I2 r1 r2 q2

theorem pe_op {op : Operator} {r : R2} (ho : OpR X (binaryOp op) r) (ha : PE X a ta) (hb : PE X b tb) : PE X (.BinOp a op b pos) (tOp r ta tb) := by
  intro pins s σ H Q I h
  exact wpAny_BinOp (binT ha hb I h fun v u s2 x y H2 I2 rx ry q => ho pins s2 σ H2 x y v u Q I2 rx ry q)
theorem pe_un {op : UnaryOp} {r : V → Hp → VK → Prop} (ho : UnR X (unaryOp op) r) (ha : PE X a ta) : PE X (.UnaryOp op a pos) (tUn r ta) := by
  intro pins s σ H Q I h
  exact UnaryOp_ (thn (ha pins s σ H _ I h) fun v s1 ⟨x, H1, I1, r1, q1⟩ => ho pins s1 σ H1 x v Q I1 r1 q1)
/-! ### ints -/
theorem opI {f : Value → Value → Sem Value} {C : Int → Int → Prop} {g : Int → Int → Int}
    (rule : ∀ (i j : Int) (t u : Tok) (s : Shared) (Q : Value → Shared → Prop) (E : Value → Shared → Prop), C i j → Q (.int (g i j) s.toks) { s with toks := s.toks + 1 } → wpAny (model X.prog X.w) X.A (f (.int i t) (.int j u)) Q E s) :
    OpR X f (rI C fun i j => .int (g i j)) := by
  intro pins s σ H x y v u Q I rx ry h
  obtain ⟨i, j, rfl, rfl, hc, q⟩ := h
  obtain ⟨t, rfl⟩ := rx
  obtain ⟨t', rfl⟩ := ry
  exact rule i j t t' s _ _ hc ⟨.int (g i j), H, I.tok _, ⟨_, rfl⟩, q⟩
theorem opI0 {f : Value → Value → Sem Value} {g : Int → Int → Int}
    (rule : ∀ (i j : Int) (t u : Tok) (s : Shared) (Q : Value → Shared → Prop) (E : Value → Shared → Prop), Q (.int (g i j) s.toks) { s with toks := s.toks + 1 } → wpAny (model X.prog X.w) X.A (f (.int i t) (.int j u)) Q E s) :
    OpR X f (rI0 fun i j => .int (g i j)) := by
  intro pins s σ H x y v u Q I rx ry h
  obtain ⟨i, j, rfl, rfl, q⟩ := h
  obtain ⟨t, rfl⟩ := rx
  obtain ⟨t', rfl⟩ := ry
  exact rule i j t t' s _ _ ⟨.int (g i j), H, I.tok _, ⟨_, rfl⟩, q⟩
theorem opB0 {f : Value → Value → Sem Value} {g : Int → Int → Bool}
    (rule : ∀ (i j : Int) (t u : Tok) (s : Shared) (Q : Value → Shared → Prop) (E : Value → Shared → Prop), Q (.bool (g i j)) s → wpAny (model X.prog X.w) X.A (f (.int i t) (.int j u)) Q E s) :
    OpR X f (rI0 fun i j => .bl (g i j)) := by
  intro pins s σ H x y v u Q I rx ry h
  obtain ⟨i, j, rfl, rfl, q⟩ := h
  obtain ⟨t, rfl⟩ := rx
  obtain ⟨t', rfl⟩ := ry
  exact rule i j t t' s _ _ ⟨.bl (g i j), H, I, rfl, q⟩

def CDiv (i j : Int) : Prop := 0 < j ∧ j < 1073741824
def CPow (i j : Int) : Prop := 0 ≤ j ∧ j ≤ 1000000 ∧ i.natAbs < 2 ^ 64
def CMul (i j : Int) : Prop := (-(2 ^ 64) < i ∧ i < 2 ^ 64) ∨ (-(2 ^ 64) < j ∧ j < 2 ^ 64)
theorem CMul.ok {i j : Int} (h : CMul i j) : IntMulOk i j := by
  rcases h with ⟨h1, h2⟩ | ⟨h1, h2⟩
  · exact .of_left (intBits_le_64 h1 h2)
  · exact .of_right (intBits_le_64 h1 h2)
theorem op_add : OpR X (binaryOp .Add) (rI0 fun i j => .int (i + j)) := opI0 fun _ _ _ _ _ _ _ q => add_int q
theorem op_sub : OpR X (binaryOp .Sub) (rI0 fun i j => .int (i - j)) := opI0 fun _ _ _ _ _ _ _ q => sub_int q
theorem op_mul : OpR X (binaryOp .Mult) (rI CMul fun i j => .int (i * j)) := opI fun _ _ _ _ _ _ _ hc q => mul_int q hc.ok
/-- // by a positive divisor -/
theorem op_fdiv : OpR X (binaryOp .FloorDiv) (rI CDiv fun i j => .int (i / j)) := opI fun i j _ _ _ _ _ hc q => by
  have h1 : (0 : Int) < j := hc.1
  have h2 : j < 1073741824 := hc.2
  exact floordiv_int (by omega) (by rw [Int.fdiv_eq_ediv_of_nonneg i (by omega)]; exact q) (.inl (PyProof.noPylong_small (by omega)))
/-- % by a positive divisor of any size -/
theorem op_mod : OpR X (binaryOp .Mod) (rI (fun _ j => 0 < j) fun i j => .int (i % j)) := opI fun i j _ _ _ _ _ hc q => by
  have h1 : (0 : Int) < j := hc
  exact mod_int' (by omega) (by rw [Int.fmod_eq_emod_of_nonneg i (by omega)]; exact q)
theorem op_pow : OpR X (binaryOp .Pow) (rI CPow fun i j => .int (i ^ j.toNat)) := opI fun _ _ _ _ _ _ _ hc q => pow_int_small hc.1 hc.2.1 hc.2.2 q
theorem unI {f : Value → Sem Value} {g : Int → Int}
    (rule : ∀ (i : Int) (t : Tok) (s : Shared) (Q : Value → Shared → Prop) (E : Value → Shared → Prop), Q (.int (g i) s.toks) { s with toks := s.toks + 1 } → wpAny (model X.prog X.w) X.A (f (.int i t)) Q E s) :
    UnR X f (rU fun i => .int (g i)) := by
  intro pins s σ H x v Q I rx h
  obtain ⟨i, rfl, q⟩ := h
  obtain ⟨t, rfl⟩ := rx
  exact rule i t s _ _ ⟨.int (g i), H, I.tok _, ⟨_, rfl⟩, q⟩
theorem un_neg : UnR X (unaryOp .USub) (rU fun i => .int (-i)) := unI fun _ _ _ _ _ q => neg_int q
end

/-! ### comparisons -/
/-- the scalars that == tells apart as data does -/
def scal : V → V → Bool
  | .non, .non => true | .non, .int _ => true | .int _, .non => true | .non, .bl _ => true | .bl _, .non => true | .non, .str _ => true | .str _, .non => true
  | .int _, .int _ => true | .bl _, .bl _ => true | .str _, .str _ => true | .byt _, .byt _ => true
  | .int _, .str _ => true | .str _, .int _ => true | .bl _, .str _ => true | .str _, .bl _ => true
  | _, _ => false
def rEq : R2 := fun x y H Q => scal x y = true ∧ Q (.bl (decide (x = y))) H
def rNe : R2 := fun x y H Q => scal x y = true ∧ Q (.bl (!decide (x = y))) H

theorem dec_int {i j : Int} : decide (V.int i = V.int j) = (i == j) := by
  rw [Bool.eq_iff_iff]
  simp
theorem dec_bl {i j : Bool} : decide (V.bl i = V.bl j) = (i == j) := by
  rw [Bool.eq_iff_iff]
  simp
theorem dec_str {i j : Str} : decide (V.str i = V.str j) = (i == j) := by
  rw [Bool.eq_iff_iff]
  simp
theorem dec_byt {i j : Array UInt8} : decide (V.byt i = V.byt j) = (i.toList == j.toList) := by
  rw [Bool.eq_iff_iff]
  cases i
  cases j
  simp

section
variable {X : Cx} {a b c : Expr} {ta tb tc : TE} {pos : Pos}
theorem fin_bl {pins : List (Addr × Obj)} {σ : St} {H : Hp} {s : Shared} {Q : VK} {k k' : Bool} (I : Inv X pins σ H s) (q : Q (.bl k) H) (e : k = k') : EP X pins σ Q (.bool k') s := by
  subst e
  exact ⟨.bl k, H, I, rfl, q⟩
theorem op_eq : OpR X (compareOp .Eq) rEq := by
  intro pins s σ H x y v u Q I rx ry h
  obtain ⟨hs, q⟩ := h
  cases x with
  | non =>
    cases rx
    cases y with
    | non => cases ry; exact PySem.EqNone.eq_none_none (fin_bl I q (by simp))
    | bl j => cases ry; exact PySem.EqNone.eq_none_bool (fin_bl I q (by simp))
    | int j => obtain ⟨t', rfl⟩ := ry; exact PySem.EqNone.eq_none_int (fin_bl I q (by simp))
    | str j => obtain ⟨t', rfl⟩ := ry; exact PySem.EqNone.eq_none_str (fin_bl I q (by simp))
    | _ => exact absurd (show false = true from hs) Bool.false_ne_true
  | bl i =>
    cases rx
    cases y with
    | non => cases ry; exact PySem.EqNone.eq_bool_none (fin_bl I q (by simp))
    | bl j => cases ry; exact eq_bool (fin_bl I q dec_bl)
    | str j => obtain ⟨t', rfl⟩ := ry; exact PySem.EqMixed.eq_bool_str (fin_bl I q (by simp))
    | _ => exact absurd (show false = true from hs) Bool.false_ne_true
  | int i =>
    obtain ⟨t, rfl⟩ := rx
    cases y with
    | non => cases ry; exact PySem.EqNone.eq_int_none (fin_bl I q (by simp))
    | int j => obtain ⟨t', rfl⟩ := ry; exact eq_int (fin_bl I q dec_int)
    | str j => obtain ⟨t', rfl⟩ := ry; exact PySem.EqMixed.eq_int_str (fin_bl I q (by simp))
    | _ => exact absurd (show false = true from hs) Bool.false_ne_true
  | str i =>
    obtain ⟨t, rfl⟩ := rx
    cases y with
    | non => cases ry; exact PySem.EqNone.eq_str_none (fin_bl I q (by simp))
    | bl j => cases ry; exact PySem.EqMixed.eq_str_bool (fin_bl I q (by simp))
    | int j => obtain ⟨t', rfl⟩ := ry; exact PySem.EqMixed.eq_str_int (fin_bl I q (by simp))
    | str j => obtain ⟨t', rfl⟩ := ry; exact eq_str (fin_bl I q dec_str)
    | _ => exact absurd (show false = true from hs) Bool.false_ne_true
  | byt i =>
    obtain ⟨t, rfl⟩ := rx
    cases y with
    | byt j => obtain ⟨t', rfl⟩ := ry; exact PySem.W.eq_bytes (fin_bl I q dec_byt)
    | _ => exact absurd (show false = true from hs) Bool.false_ne_true
  | _ => cases y <;> exact absurd (show false = true from hs) Bool.false_ne_true
theorem op_ne : OpR X (compareOp .NotEq) rNe := by
  intro pins s σ H x y v u Q I rx ry h
  obtain ⟨hs, q⟩ := h
  cases x with
  | non =>
    cases rx
    cases y with
    | non => cases ry; exact PySem.EqNone.ne_none_none (fin_bl I q (by simp))
    | bl j => cases ry; exact PySem.EqNone.ne_none_bool (fin_bl I q (by simp))
    | int j => obtain ⟨t', rfl⟩ := ry; exact PySem.EqNone.ne_none_int (fin_bl I q (by simp))
    | str j => obtain ⟨t', rfl⟩ := ry; exact PySem.EqNone.ne_none_str (fin_bl I q (by simp))
    | _ => exact absurd (show false = true from hs) Bool.false_ne_true
  | bl i =>
    cases rx
    cases y with
    | non => cases ry; exact PySem.EqNone.ne_bool_none (fin_bl I q (by simp))
    | bl j => cases ry; exact ne_bool (fin_bl I q (congrArg not dec_bl))
    | str j => obtain ⟨t', rfl⟩ := ry; exact PySem.EqMixed.ne_bool_str (fin_bl I q (by simp))
    | _ => exact absurd (show false = true from hs) Bool.false_ne_true
  | int i =>
    obtain ⟨t, rfl⟩ := rx
    cases y with
    | non => cases ry; exact PySem.EqNone.ne_int_none (fin_bl I q (by simp))
    | int j => obtain ⟨t', rfl⟩ := ry; exact ne_int (fin_bl I q (congrArg not dec_int))
    | str j => obtain ⟨t', rfl⟩ := ry; exact PySem.EqMixed.ne_int_str (fin_bl I q (by simp))
    | _ => exact absurd (show false = true from hs) Bool.false_ne_true
  | str i =>
    obtain ⟨t, rfl⟩ := rx
    cases y with
    | non => cases ry; exact PySem.EqNone.ne_str_none (fin_bl I q (by simp))
    | bl j => cases ry; exact PySem.EqMixed.ne_str_bool (fin_bl I q (by simp))
    | int j => obtain ⟨t', rfl⟩ := ry; exact PySem.EqMixed.ne_str_int (fin_bl I q (by simp))
    | str j => obtain ⟨t', rfl⟩ := ry; exact ne_str (fin_bl I q (congrArg not dec_str))
    | _ => exact absurd (show false = true from hs) Bool.false_ne_true
  | byt i =>
    obtain ⟨t, rfl⟩ := rx
    cases y with
    | byt j => obtain ⟨t', rfl⟩ := ry; exact PySem.W.ne_bytes (fin_bl I q (congrArg not dec_byt))
    | _ => exact absurd (show false = true from hs) Bool.false_ne_true
  | _ => cases y <;> exact absurd (show false = true from hs) Bool.false_ne_true

theorem op_lt : OpR X (compareOp .Lt) (rI0 fun i j => .bl (decide (i < j))) := opB0 fun _ _ _ _ _ _ _ q => lt_int q
theorem op_le : OpR X (compareOp .LtE) (rI0 fun i j => .bl (decide (i ≤ j))) := opB0 fun _ _ _ _ _ _ _ q => le_int q
theorem op_gt : OpR X (compareOp .Gt) (rI0 fun i j => .bl (decide (j < i))) := opB0 fun _ _ _ _ _ _ _ q => gt_int q
theorem op_ge : OpR X (compareOp .GtE) (rI0 fun i j => .bl (decide (j ≤ i))) := opB0 fun _ _ _ _ _ _ _ q => ge_int q
/-- is None, is not None: the right side a value none -/
theorem op_isN : OpR X (compareOp .Is) (fun x y H Q => y = .non ∧ Q (.bl (decide (x = .non))) H) := by
  intro pins s σ H x y v u Q I rx ry h
  obtain ⟨rfl, q⟩ := h
  cases ry
  refine is_none_gen (fin_bl I q ?_)
  cases x <;> first
    | (cases rx; rfl)
    | (obtain ⟨t, rfl⟩ := rx; rfl)
/-- two rules for one operation: by cases -/
theorem OpR.or {f : Value → Value → Sem Value} {r r' : R2} (h : OpR X f r) (h' : OpR X f r') : OpR X f (fun x y H Q => r x y H Q ∨ r' x y H Q) := by
  intro pins s σ H x y v u Q I rx ry q
  rcases q with q | q
  · exact h pins s σ H x y v u Q I rx ry q
  · exact h' pins s σ H x y v u Q I rx ry q

theorem nomark (b : Expr) {op : CmpOp} (h : op ≠ .In := by decide) (h2 : op ≠ .NotIn := by decide) : behindInMarks op b = false := by
  have e1 : (op == CmpOp.In) = false := by cases op <;> first | rfl | exact absurd rfl h
  have e2 : (op == CmpOp.NotIn) = false := by cases op <;> first | rfl | exact absurd rfl h2
  cases b <;> simp [behindInMarks, e1, e2]
/-- a comparison as a value; hm: nomark b, or (for in, not in) by with_unfolding_all rfl -/
theorem pe_cmpR {op : CmpOp} {r : R2} (ho : OpR X (compareOp op) r) (ha : PE X a ta) (hb : PE X b tb) (hm : behindInMarks op b = false) : PE X (.Compare a [op] [b] pos) (tOp r ta tb) := by
  intro pins s σ H Q I h
  exact wpAny_Compare1 (binT ha hb I h fun v u s2 x y H2 I2 rx ry q => ho pins s2 σ H2 x y v u Q I2 rx ry q) hm
/-- a reading of a value as a test -/
def tTest (t : TE) : TT := fun σ H Q => t σ H fun x H' => ∃ k, x = .bl k ∧ Q k H'
theorem pt_cmpR {op : CmpOp} {r : R2} (ho : OpR X (compareOp op) r) (ha : PE X a ta) (hb : PE X b tb) (hm : behindInMarks op b = false) : PT X (.Compare a [op] [b] pos) (tTest (tOp r ta tb)) := by
  intro pins s σ H Q I h
  refine wpAny_isTrue_Compare1 (thn (ha pins s σ H _ I h) fun v s1 ⟨x, H1, I1, r1, q1⟩ => thn (hb pins s1 σ H1 _ I1 q1) fun u s2 ⟨y, H2, I2, r2, q2⟩ =>
    thn (ho pins s2 σ H2 x y v u _ I2 r1 r2 q2) fun c s3 ⟨z, H3, I3, r3, k, e, q3⟩ => ?_) hm
  subst e
  cases r3
  exact wpAny_truthy_bool ⟨H3, I3, q3⟩
/-- a op1 b op2 c -/
def tChain (r r' : R2) (ta tb tc : TE) : TE := fun σ H Q => ta σ H fun x H1 => tb σ H1 fun y H2 => r x y H2 fun z H3 => ∃ k, z = .bl k ∧
  (if k = true then tc σ H3 fun w' H4 => r' y w' H4 Q else Q (.bl false) H3)
theorem pe_chain {op op' : CmpOp} {r r' : R2} (ho : OpR X (compareOp op) r) (ho' : OpR X (compareOp op') r') (ha : PE X a ta) (hb : PE X b tb) (hc : PE X c tc)
    (hm : lastMarks [op, op'] [b, c] = false := by with_unfolding_all rfl) : PE X (.Compare a [op, op'] [b, c] pos) (tChain r r' ta tb tc) := by
  intro pins s σ H Q I h
  refine Compare_chain (thn (ha pins s σ H _ I h) fun v s1 ⟨x, H1, I1, r1, q1⟩ => chain_link (thn (hb pins s1 σ H1 _ I1 q1) fun u s2 ⟨y, H2, I2, r2, q2⟩ =>
    thn (ho pins s2 σ H2 x y v u _ I2 r1 r2 q2) fun d s3 ⟨z, H3, I3, r3, k, e, q3⟩ => ?_)) hm
  subst e
  cases r3
  refine wpAny_truthy_bool ?_
  cases k with
  | false => exact ite_ff ⟨.bl false, H3, I3, rfl, q3⟩
  | true => exact ite_tt (chain_last (thn (hc pins s3 σ H3 _ I3 q3) fun w' s4 ⟨z', H4, I4, r4, q4⟩ => ho' pins s4 σ H4 y z' u w' Q I4 r2 r4 q4))
/-! ### truth -/
/-- a value's truth by the abstract heap -/
def TruV (K : PySem.W.Frag) (x : V) (H : Hp) (k : Bool) : Prop :=
  match x with
  | .non => k = false
  | .bl b => k = b
  | .int i => k = (i != 0)
  | .str y => y.length ≤ sizeLine ∧ k = ((y.length : Int) != 0)
  | .byt y => y.size ≤ sizeLine ∧ k = ((y.size : Int) != 0)
  | .ref p => (∃ xs, SqL K H p xs ∧ k = !xs.isEmpty) ∨ (∃ xs, SqT K H p xs ∧ k = !xs.isEmpty) ∨ ∃ kvs, H p = some (.dK kvs) ∧ k = !kvs.isEmpty
  | _ => False
theorem isEmpty_kv {κ : Type} {kvs : List (κ × V)} {vs : List (κ × Value)} (r : KV kvs vs) : (!vs.isEmpty) = !kvs.isEmpty := by
  cases r <;> rfl
theorem isEmpty_of {xs : List V} {its : List Value} (r : Vals xs its) : (!its.toArray.isEmpty) = !xs.isEmpty := by
  cases r <;> simp
theorem line63 : (sizeLine : Nat) < 2 ^ 63 := by rw [sizeLine_eq]; decide
theorem tru_ok : TruR X (fun x H Q => ∃ k, TruV X.K x H k ∧ Q k H) := by
  intro pins s σ H x v Q I rx h
  obtain ⟨k, e, q⟩ := h
  have hl := line63
  have hs : sizeLine = 16777216 := sizeLine_eq
  cases x with
  | non =>
    cases rx
    have e' : k = false := e
    subst e'
    exact truthy_none ⟨H, I, q⟩
  | bl b =>
    cases rx
    have e' : k = b := e
    subst e'
    exact wpAny_truthy_bool ⟨H, I, q⟩
  | int i =>
    obtain ⟨t, rfl⟩ := rx
    have e' : k = (i != 0) := e
    subst e'
    exact PySem.P.truthy_int ⟨H, I, q⟩
  | str y =>
    obtain ⟨t, rfl⟩ := rx
    obtain ⟨hy, e'⟩ : y.length ≤ sizeLine ∧ k = ((y.length : Int) != 0) := e
    subst e'
    exact PySem.P.truthy_str (by omega) ⟨H, I.tok _, q⟩
  | byt y =>
    obtain ⟨t, rfl⟩ := rx
    obtain ⟨hy, e'⟩ : y.size ≤ sizeLine ∧ k = ((y.size : Int) != 0) := e
    subst e'
    exact PySem.W.truthy_bytes (by omega) ⟨H, I.tok _, q⟩
  | ref p =>
    cases rx
    have e' : (∃ xs, SqL X.K H p xs ∧ k = !xs.isEmpty) ∨ (∃ xs, SqT X.K H p xs ∧ k = !xs.isEmpty) ∨ ∃ kvs, H p = some (.dK kvs) ∧ k = !kvs.isEmpty := e
    rcases e' with ⟨xs, hx, e'⟩ | ⟨xs, hx, e'⟩ | ⟨kvs, hx, e'⟩
    · subst e'
      obtain ⟨its, r, pl, hz⟩ := I.list hx
      have hlen := r.length
      exact wpAny_truthy_list pl.isList (by simp only [List.size_toArray]; omega) ⟨H, I.tok _, by rw [isEmpty_of r]; exact q⟩
    · subst e'
      obtain ⟨its, r, pl, hz⟩ := I.tuple hx
      have hlen := r.length
      exact truthy_tuple pl (by simp only [List.size_toArray]; omega) ⟨H, I.tok _, by rw [isEmpty_of r]; exact q⟩
    · subst e'
      obtain ⟨hz, hS, vs, r, m⟩ : kvs.length ≤ sizeLine ∧ (p == sysModules) = false ∧ ∃ vs, KV kvs vs ∧ s.heap.DictOf (mixKind X.prog X.w) p vs := I.hok p _ hx
      have hlen : kvs.length = vs.length := Paired.length r
      exact wpAny_truthy_dict hS m (by omega) ⟨H, I.tok _, by rw [isEmpty_kv r]; exact q⟩
  | _ => exact (show False from e).elim
/-- any expression whose test is its value's truth (a name, a call, a subscript, a field ..: he by fun _ => rfl) -/
theorem pt_truth (ha : PE X a ta) (he : ∀ whole, isTrue a X.env whole = (do let v ← whole; standAt a.pos; holding [v] (truthy v))) :
    PT X a (fun σ H Q => ta σ H fun x H' => ∃ k, TruV X.K x H' k ∧ Q k H') := by
  intro pins s σ H Q I h
  exact isTrue_plain (thn (ha pins s σ H _ I h) fun v s1 ⟨x, H1, I1, r1, q1⟩ => tru_ok pins s1 σ H1 x v Q I1 r1 q1) (he _)

/-! ### scalar builtins, by CallR -/
theorem vals1 {x : V} {us : List Value} (r : Vals [x] us) : ∃ u, us = [u] ∧ RelV x u := by
  cases r with
  | cons r1 r2 => cases r2; exact ⟨_, rfl, r1⟩
theorem vals2 {x y : V} {us : List Value} (r : Vals [x, y] us) : ∃ u w', us = [u, w'] ∧ RelV x u ∧ RelV y w' := by
  cases r with
  | cons r1 r2 =>
    cases r2 with
    | cons r3 r4 => cases r4; exact ⟨_, _, rfl, r1, r3⟩
theorem call_int1 : CallR X (.type "int") (fun xs H Q => (∃ i, xs = [.int i] ∧ Q (.int i) H) ∨ ∃ k, xs = [.bl k] ∧ Q (.int (if k then 1 else 0)) H) := by
  intro pins s σ H xs us Q I r h
  rcases h with ⟨i, rfl, q⟩ | ⟨k, rfl, q⟩
  · obtain ⟨u, rfl, t, rfl⟩ := vals1 r
    exact call_int_int ⟨.int i, H, I, ⟨_, rfl⟩, q⟩
  · obtain ⟨u, rfl, r1⟩ := vals1 r
    cases r1
    exact call_int_bool ⟨.int (if k then 1 else 0), H, I.tok _, ⟨_, rfl⟩, q⟩
end
end L2

namespace L2
open PySem PySem.Spec PyProof.Rows

/-! ### an instance, its attributes a map -/
structure ObjM (h : Heap) (x dx C : Addr) (mA : Str → Option Value) : Prop where
  obj : h.get? x = some (PySem.W.instObj C dx)
  ns : h.Ns1 dx mA
  ne : dx ≠ x

theorem lookIn_ns {h : Heap} {dx : Addr} {mA : Str → Option Value} (n : h.Ns1 dx mA) : ∃ od, h.get? dx = some od ∧ ∀ name, PySem.W.lookIn name od = some (mA name) := by
  obtain ⟨o, es, ep, ho, hd, hk, _, hm⟩ := n
  refine ⟨o, ho, fun name => ?_⟩
  have e := hm name
  unfold nsFind findBy at e
  rw [← Array.find?_toList] at e
  unfold PySem.W.lookIn
  rw [hd]
  dsimp only
  split
  · rename_i y q
    rw [q] at e
    exact congrArg some e
  · rename_i q
    rw [q] at e
    have a : es.toList.any (·.refKey) = false := by
      rw [List.any_eq_false]
      intro y hy
      obtain ⟨z, t, hkey⟩ := hk y (Array.mem_toList_iff.mp hy)
      simp [DictEntry.refKey, hkey]
    have a' : ¬ es.toList.any (·.refKey) = true := by rw [a]; exact Bool.false_ne_true
    rw [if_neg a']
    exact congrArg some e

theorem ObjM.look {h : Heap} {x dx C : Addr} {mA : Str → Option Value} (I : ObjM h x dx C mA) : ∃ od, PySem.W.InstAt h x (PySem.W.instObj C dx) C (some od) ∧ ∀ name, PySem.W.lookIn name od = some (mA name) :=
  let ⟨od, ho, hl⟩ := lookIn_ns I.ns
  ⟨od, ⟨I.obj, rfl, rfl, ho⟩, hl⟩

section
variable {prog : Program} {w : World} {A : Around} {E : Value → Shared → Prop} {s : Shared} {K : PySem.W.Frag} {x dx C f : Addr} {mA : Str → Option Value} {name : Str} {v : Value}

end

theorem RelO.some_of {v : V} {o : Option Value} (r : RelO (some v) o) : ∃ u, o = some u ∧ RelV v u := by
  cases o with
  | none => exact (show False from r).elim
  | some u => exact ⟨u, rfl, r⟩
section
variable {P : Program} {w : World} {H H' : Hp} {h h' : Heap} {a C dx : Addr} {fs fs' : List (Str × V)}
theorem ins_get (hok : HOk P w H h) (e : H a = some (.ins C dx fs)) : ∃ mA, ObjM h a dx C mA ∧ (∀ f, RelO (fs.lookup f) (mA f)) ∧ PySem.Within mA (fs.map (·.1)) ∧ fs.length ≤ 1000 ∧ H dx = some (.own a) := by
  obtain ⟨d, z, ne, ob, mA, n, r, q⟩ := (show ObjOk P w H h a (.ins C dx fs) from hok a _ e)
  exact ⟨mA, ⟨ob, n, ne⟩, r, q, z, d⟩
end

/-! ### what of the text a class must have -/
structure Cls (K : PySem.W.Frag) (C : Addr) : Prop where
  pg : PySem.W.plainGet K C Str.empty = true
  hd : PySem.W.hasDictIn K C = true
  po : PySem.W.plainOver K C = true
  sa : PySem.W.findIn K (.ref C) "__setattr__" = some (some (.builtin "object.__setattr__"))
theorem Cls.get {K : PySem.W.Frag} {C : Addr} (c : Cls K C) (f : Str) : PySem.W.plainGet K C f = true := c.pg
/-- a method: a plain def of the class or of one above it -/
structure Meth (K : PySem.W.Frag) (C : Addr) (m : Str) (f : Addr) : Prop where
  at_ : PySem.W.findIn K (.ref C) m = some (some (.ref f))
  fn : PySem.W.isFn K (.ref f) = true
  kp : PySem.W.keepIn K (.ref f) = true

section
variable {X : Cx} {pins : List (Addr × Obj)} {σ : St} {H : Hp} {s : Shared} {a C dx : Addr} {fs : List (Str × V)} {f : Str} {v : V} {A : Around} {E : Value → Shared → Prop}

/-- a new instance, tracked, without attributes -/
theorem Inv.made (I : Inv X pins σ H s) : Inv X pins σ (upd (upd H s.heap.objs.size (.own (s.heap.objs.size + 1))) (s.heap.objs.size + 1) (.ins C s.heap.objs.size []))
    { s with heap := (s.heap.push PySem.W.emptyDict).push (PySem.W.instObj C s.heap.objs.size) } := by
  have e1 : (s.heap.push PySem.W.emptyDict).get? s.heap.objs.size = some PySem.W.emptyDict := Heap.get?_push_size s.heap rfl
  have e2 : ((s.heap.push PySem.W.emptyDict).push (PySem.W.instObj C s.heap.objs.size)).get? (s.heap.objs.size + 1) = some (PySem.W.instObj C s.heap.objs.size) := by
    have := Heap.get?_push_size (s.heap.push PySem.W.emptyDict) (o := PySem.W.instObj C s.heap.objs.size) rfl
    rwa [Heap.size_push] at this
  have e3 : (s.heap.push PySem.W.emptyDict).Ns s.heap.objs.size (fun _ => none) := ⟨PySem.W.emptyDict, #[], _, e1, rfl, (fun e he => absurd he (by simp)), fun _ => rfl⟩
  have I1 := I.laid (a := s.heap.objs.size) (o := .own (s.heap.objs.size + 1)) (h' := s.heap.push PySem.W.emptyDict) (t' := s.toks) (fun b u q => Heap.get?_push_of_some _ q) (Nat.le_refl _) ⟨_, e1⟩
  refine I1.laid (a := s.heap.objs.size + 1) (o := .ins C s.heap.objs.size []) (t' := s.toks) (fun b u q => Heap.get?_push_of_some _ q) (Nat.le_of_eq (Heap.size_push _ _)) ?_
  have ne : s.heap.objs.size ≠ s.heap.objs.size + 1 := Nat.ne_of_lt (Nat.lt_succ_self _)
  refine ⟨by rw [upd_ne ne, upd_same], Nat.zero_le _, ne, e2, fun _ => none, (Heap.Ns1.of_empty e3).at fun o q => Heap.get?_push_of_some _ q, fun _ => True.intro, fun y hy => absurd rfl hy⟩

/-- e.f where nothing but the object is asked: through attributeBase (super) and the last hold -/
theorem attr_of {prog : Program} {w : World} {env : Env} {e : Expr} {f : Str} {pos : Pos} {s : Shared} {Q : Value → Shared → Prop} (hb : attributeBase e f env (eval e env) = eval e env)
    (h : wpAny (model prog w) A (eval e env) (fun o s₁ => wpAny (model prog w) A (getAttr o f true) Q E s₁) E s) : wpAny (model prog w) A (eval (.Attribute e f pos) env) Q E s :=
  Attribute_any_ h (by rw [arm_eval_Attribute, hb])
end

section
variable {X : Cx} {o e value : Expr} {f : Str} {pos pos' tpos : Pos} {ta tv : TE}
end

section
variable {X : Cx} {pins : List (Addr × Obj)} {σ : St} {H : Hp} {s : Shared} {A : Around} {E : Value → Shared → Prop} {Q : Value → Shared → Prop} {c : Value} {b : Bool}
/-- the type of a value, as the fragment's deciders take it; for an instance its class -/
inductive TyOf (K : PySem.W.Frag) (H : Hp) : V → Value → Prop where
  | non : TyOf K H .non (.type "NoneType")
  | bl (x : Bool) : TyOf K H (.bl x) (.type "bool")
  | int (i : Int) : TyOf K H (.int i) (.type "int")
  | str (x : Str) : TyOf K H (.str x) (.type "str")
  | flt (x : UInt64) : TyOf K H (.flt x) (.type "float")
  | lst {a : Addr} {xs : List V} (e : H a = some (.lst xs)) : TyOf K H (.ref a) (.type "list")
  | frz {a : Addr} {o : Obj} {xs : List V} (e : H a = some (.frz o (.lst xs))) : TyOf K H (.ref a) (.type "list")
  | tup {a : Addr} {xs : List V} (e : H a = some (.tup xs)) : TyOf K H (.ref a) (.type "tuple")
  | dK {a : Addr} {kvs : List (Key × V)} (e : H a = some (.dK kvs)) : TyOf K H (.ref a) (.type "dict")
  | dT {a : Addr} {kvs : List (List Key × V)} (e : H a = some (.dT kvs)) : TyOf K H (.ref a) (.type "dict")
  | ins {a C dx : Addr} {fs : List (Str × V)} (e : H a = some (.ins C dx fs)) (cl : Cls K C) (ha : PySem.W.findIn K (.ref C) "__class__" = some (some (.builtin "object.__class__")))
      (hn : PySem.W.specialIn K (.builtin "object.__class__") "__get__" = some (some (.builtin "getset_descriptor.__get__"))) (htk : PySem.W.takesIn K (.builtin "object.__class__") = some true)
      (hm : PySem.W.mroIn K C (.type "object") = some true) : TyOf K H (.ref a) (.ref C)
/-- isinstance(x, c) for one class c, a built-in or an own one: kitOne's answer -/
theorem isinst_ok {x : V} {u t : Value} (I : Inv X pins σ H s) (rx : RelV x u) (ty : TyOf X.K H x t) (e : PySem.W.kitOne X.K t c = some b) (h : ∀ tk, Q (.bool b) { s with toks := tk }) :
    wpAny (model X.prog X.w) A (call (.builtin "isinstance") [u, c]) Q E s := by
  cases ty with
  | non => cases (show u = Value.none from rx); exact PySem.W.kia_one PySem.W.kitx_none I.kIn True.intro e (fun z => nomatch z) h
  | bl y => cases (show u = Value.bool y from rx); exact PySem.W.kia_one PySem.W.kitx_bool I.kIn True.intro e (fun z => nomatch z) h
  | int i => obtain ⟨t, q⟩ := (show ∃ t, u = Value.int i t from rx); cases q; exact PySem.W.kia_one PySem.W.kitx_int I.kIn True.intro e (fun z => nomatch z) h
  | str y => obtain ⟨t, q⟩ := (show ∃ t, u = Value.str y t from rx); cases q; exact PySem.W.kia_one PySem.W.kitx_str I.kIn True.intro e (fun z => nomatch z) h
  | flt y => obtain ⟨t, q⟩ := (show ∃ t, u = Value.float y t from rx); cases q; exact PySem.W.kia_one PySem.W.kitx_float I.kIn True.intro e (fun z => nomatch z) h
  | @lst a xs ea =>
    cases (show u = Value.ref a from rx)
    obtain ⟨_, _, n, _, h1⟩ := (show ObjOk X.prog X.w H s.heap a (.lst xs) from I.hok a _ ea)
    exact PySem.W.kia_one PySem.W.kitx_list I.kIn ⟨_, h1, rfl⟩ e (fun z => nomatch z) h
  | @frz a ob xs ea =>
    cases (show u = Value.ref a from rx)
    obtain ⟨_, _, _, n, _, h1⟩ := (show ObjOk X.prog X.w H s.heap a (.frz ob (.lst xs)) from I.hok a _ ea)
    exact PySem.W.kia_one PySem.W.kitx_list I.kIn ⟨_, h1, rfl⟩ e (fun z => nomatch z) h
  | @tup a xs ea =>
    cases (show u = Value.ref a from rx)
    obtain ⟨_, _, _, p⟩ := (show ObjOk X.prog X.w H s.heap a (.tup xs) from I.hok a _ ea)
    obtain ⟨o, h1, h2, _⟩ := p
    exact PySem.W.kia_one PySem.W.kitx_tuple I.kIn ⟨o, h1, h2⟩ e (fun z => nomatch z) h
  | @dK a kvs ea =>
    cases (show u = Value.ref a from rx)
    obtain ⟨_, _, vs, _, p⟩ := (show ObjOk X.prog X.w H s.heap a (.dK kvs) from I.hok a _ ea)
    obtain ⟨o, es, ep, h1, h2, _⟩ := p
    exact PySem.W.kia_one PySem.W.kitx_dict I.kIn ⟨o, h1, h2.1⟩ e (fun z => nomatch z) h
  | @dT a kvs ea =>
    cases (show u = Value.ref a from rx)
    obtain ⟨_, _, xs, _, o, es, ep, h1, h2, _⟩ := (show ObjOk X.prog X.w H s.heap a (.dT kvs) from I.hok a _ ea)
    exact PySem.W.kia_one PySem.W.kitx_dict I.kIn ⟨o, h1, h2.1⟩ e (fun z => nomatch z) h
  | @ins a C dx fs ea cl ha hn htk hm =>
    cases (show u = Value.ref a from rx)
    obtain ⟨mA, O, _⟩ := ins_get I.hok ea
    obtain ⟨od, J, _⟩ := O.look
    exact PySem.W.kia_one (PySem.W.kitx_own (cl.get _) cl.hd ha hn htk hm) I.kIn J e (fun z => nomatch z) h
end
end L2

namespace L2
open PySem PySem.Spec PyProof.Rows

/-! ### room -/
structure Room (k : Nat) (A : Around) : Prop where
  hd : A.handled = none
  dp : A.depth + 3 * k + 5 < recursionLimit
  un : A.units + 16 * k + 200 < cLine
theorem Room.mono {j k : Nat} {A : Around} (r : Room k A) (h : j ≤ k) : Room j A := ⟨r.hd, by have := r.dp; omega, by have := r.un; omega⟩
theorem Room.deeper {k : Nat} {A : Around} (r : Room (k + 1) A) (env : Env) : Room k (A.deeper env) :=
  ⟨r.hd, by have := r.dp; show A.depth + 1 + 3 * k + 5 < _; omega, by have := r.un; show A.units + 3 + 16 * k + 200 < _; omega⟩
theorem Room.in1 {k : Nat} {A : Around} (r : Room (k + 1) A) : Room k A.in1 :=
  ⟨r.hd, by have := r.dp; show A.depth + 3 * k + 5 < _; omega, by have := r.un; show A.units + 1 + 16 * k + 200 < _; omega⟩
theorem make_depth {A : Around} {C : Addr} {us : List Value} {kw : List (Str × Value)} : (A.under (.builtin "type.__call__" ⟨.ref C :: us, kw⟩)).depth = A.depth + 1 := by
  first | rfl | simp [Around.under, Code.weight, Code.isCreation, Code.isGuard, Code.isCaller, Code.frames, Code.isFrame, guardIds]
theorem make_units {A : Around} {C : Addr} {us : List Value} {kw : List (Str × Value)} : (A.under (.builtin "type.__call__" ⟨.ref C :: us, kw⟩)).units = A.units + 1 := by
  first | rfl | simp [Around.under, Code.cUnits, Code.frames, Code.isFrame]
theorem Room.make {k : Nat} {A : Around} (r : Room (k + 1) A) (C : Addr) (us : List Value) (kw : List (Str × Value)) : Room k (A.under (.builtin "type.__call__" ⟨.ref C :: us, kw⟩)) :=
  ⟨r.hd, by have := r.dp; rw [make_depth]; omega, by have := r.un; rw [make_units]; omega⟩
theorem Room.depth {k : Nat} {A : Around} (r : Room k A) : A.depth < recursionLimit := by have := r.dp; omega
theorem Room.units {k : Nat} {A : Around} (r : Room k A) : A.units + 64 < cLine := by have := r.un; omega
/-! ### argument lists and displays -/
def tNil : TA := fun _ H Q => Q [] H
def tCons (ta : TE) (tr : TA) : TA := fun σ H Q => ta σ H fun x H1 => tr σ H1 fun xs H2 => Q (x :: xs) H2
section
variable {X : Cx} {e : Expr} {es : List Expr} {te : TE} {t : TA} {pos : Pos}
theorem pa_nil : PA X [] tNil := fun _ _ _ _ H Q I h => Calls.spliced_nil ⟨[], H, I, .nil, h⟩
theorem pa_cons (ha : PE X e te) (hr : PA X es t) (hs : starEach (e :: es) X.env = (false, eval e X.env) :: starEach es X.env := by rfl) : PA X (e :: es) (tCons te t) := by
  intro pos pins s σ H Q I h
  rw [hs]
  show wpAny _ _ (spliced ((false, eval e X.env) :: backTo pos (starEach es X.env))) _ _ s
  refine Calls.spliced_cons (thn (ha pins s σ H _ I h) fun u s1 ⟨x, H1, I1, r1, q1⟩ => ?_)
  exact thn (hr pos pins s1 σ H1 _ I1 q1) fun us s2 ⟨xs, H2, I2, r2, q2⟩ => ⟨x :: xs, H2, I2, .cons r1 r2, q2⟩

/-- a tuple, a list of written items -/
def tTup (t : TA) : TE := fun σ H Q => t σ H fun xs H1 => xs.length ≤ sizeLine ∧ ∀ p, H1 p = none → Q (.ref p) (upd H1 p (.tup xs))
def tLst (t : TA) : TE := fun σ H Q => t σ H fun xs H1 => xs.length ≤ sizeLine ∧ ∀ p, H1 p = none → Q (.ref p) (upd H1 p (.lst xs))
theorem pe_tup {x1} (h : PA X es t) : PE X (.Tuple es x1 pos) (tTup t) := by
  intro pins s σ H Q I hq
  refine wpAny_Tuple_spliced (thn (h pos pins s σ H _ I hq) fun us s1 ⟨xs, H1, I1, r, z, q⟩ => ⟨by rw [← r.length]; exact z, ?_⟩)
  have hf : H1 s1.heap.objs.size = none := I1.hok.fresh (Nat.le_refl _)
  refine ⟨.ref s1.heap.objs.size, upd H1 s1.heap.objs.size (.tup xs), I1.laid (t' := s1.toks) (fun b u e => Heap.get?_push_of_some _ e) (Nat.le_refl _) ?_, rfl, q _ hf⟩
  exact ⟨z, us, r, ⟨_, Heap.get?_push_size _ rfl, rfl, _, rfl⟩⟩
theorem pe_lst (h : PA X es t) : PE X (.List es pos) (tLst t) := by
  intro pins s σ H Q I hq
  refine wpAny_List_spliced (thn (h pos pins s σ H _ I hq) fun us s1 ⟨xs, H1, I1, r, z, q⟩ => ⟨by rw [← r.length]; exact z, ?_⟩)
  have hf : H1 s1.heap.objs.size = none := I1.hok.fresh (Nat.le_refl _)
  refine ⟨.ref s1.heap.objs.size, upd H1 s1.heap.objs.size (.lst xs), I1.laid (t' := s1.toks) (fun b u e => Heap.get?_push_of_some _ e) (Nat.le_refl _) ?_, rfl, q _ hf⟩
  exact ⟨z, us, 0, r, Heap.get?_push_size _ rfl⟩
end

/-! ### what a def promises -/
/-- a def's promise: the bound arguments in the parameters' order, the heap, the wanted end, the wanted exception -/
abbrev Sp := List V → Hp → VK → XK → Prop
/-- how an exception lies behind a call (file 08 gives it): the callers' frames, abstract heap and state ahead of the call, the wish, the exception, the state -/
abbrev CXT := List Env → Hp → Shared → XK → Value → Shared → Prop

/-- the state at a call -/
structure Env0 (P : Program) (w : World) (K : PySem.W.Frag) (mg : Str → Option Value) (base : Heap) (A : Around) (outer : List Env) (s : Shared) (H : Hp) : Prop where
  frames : A.frames = some outer
  mod : Mod K mg base
  bs : ∀ b o, base.get? b = some o → s.heap.get? b = some o ∧ H b = none
  bsz : base.objs.size ≤ s.heap.objs.size
  funs : s.heap.FunFrames base outer
  frf : ∀ b ∈ frs outer, H b = none
  hok : HOk P w H s.heap
  bare : AllBare s.gens
/-- a call's end -/
def CE (outer : List Env) (P : Program) (w : World) (H : Hp) (s : Shared) (Q : VK) (u : Value) (s' : Shared) : Prop :=
  ∃ v H', s'.os = s.os ∧ AllBare s'.gens ∧ Un (frs outer) [] H H' s.heap s'.heap ∧ HOk P w H' s'.heap ∧ RelV v u ∧ Q v H'
def CR (CX : CXT) (outer : List Env) (P : Program) (w : World) (H : Hp) (s : Shared) (Q : VK) (E : XK) (r : Result) (s' : Shared) : Prop :=
  match r with
  | .ok (.ret u) => CE outer P w H s Q u s'
  | .ok _ => False
  | .error e => CX outer H s E e s'
structure FnOk (P : Program) (w : World) (K : PySem.W.Frag) (mg : Str → Option Value) (base : Heap) (CX : CXT) (k : Nat) (f : Addr) (fd : FuncData) (ps : List Str) (sp : Sp) : Prop where
  len : ∀ vs H Q E, sp vs H Q E → vs.length = ps.length
  run : ∀ (A : Around) (outer : List Env) (s : Shared) (H : Hp) (args : Args) (us : List Value) (vs : List V) (Q : VK) (E : XK), Room k A → Env0 P w K mg base A outer s H → BindsTo s fd args (ps.zip us) → Vals vs us → sp vs H Q E →
    codeAny (model P w) A (.call (.ref f) args) (CR CX outer P w H s Q E) s
theorem FnOk.mono {P : Program} {w : World} {K : PySem.W.Frag} {mg : Str → Option Value} {base : Heap} {CX : CXT} {j k : Nat} {f : Addr} {fd : FuncData} {ps : List Str} {sp : Sp} (F : FnOk P w K mg base CX j f fd ps sp) (h : j ≤ k) :
    FnOk P w K mg base CX k f fd ps sp := ⟨F.len, fun A outer s H args us vs Q E hr => F.run A outer s H args us vs Q E (hr.mono h)⟩
/-- a weaker promise -/
theorem FnOk.imp {P : Program} {w : World} {K : PySem.W.Frag} {mg : Str → Option Value} {base : Heap} {CX : CXT} {k : Nat} {f : Addr} {fd : FuncData} {ps : List Str} {sp sp' : Sp} (F : FnOk P w K mg base CX k f fd ps sp)
    (h : ∀ vs H Q E, sp' vs H Q E → sp vs H Q E) : FnOk P w K mg base CX k f fd ps sp' :=
  ⟨fun vs H Q E q => F.len vs H Q E (h _ _ _ _ q), fun A outer s H args us vs Q E hr he hb hv hs => F.run A outer s H args us vs Q E hr he hb hv (h _ _ _ _ hs)⟩

theorem Env0.make {P : Program} {w : World} {K : PySem.W.Frag} {mg : Str → Option Value} {base : Heap} {A : Around} {outer : List Env} {s : Shared} {H : Hp} (e : Env0 P w K mg base A outer s H) (C : Addr) (us : List Value) (kw : List (Str × Value)) :
    Env0 P w K mg base (A.under (.builtin "type.__call__" ⟨.ref C :: us, kw⟩)) outer s H := ⟨by first | exact e.frames | (simpa [Around.under, Code.envs, Code.isFrame, pushEnvs] using e.frames), e.mod, e.bs, e.bsz, e.funs, e.frf, e.hok, e.bare⟩
theorem Env0.in1 {P : Program} {w : World} {K : PySem.W.Frag} {mg : Str → Option Value} {base : Heap} {A : Around} {outer : List Env} {s : Shared} {H : Hp} (e : Env0 P w K mg base A outer s H) :
    Env0 P w K mg base A.in1 outer s H := ⟨e.frames, e.mod, e.bs, e.bsz, e.funs, e.frf, e.hok, e.bare⟩

section
variable {X : Cx} {pins : List (Addr × Obj)} {σ : St} {H : Hp} {s s' : Shared}
/-- from a body: what a callee wants -/
theorem Inv.env0 (I : Inv X pins σ H s) : Env0 X.prog X.w X.K X.mg X.base X.A X.stack s H :=
  ⟨I.ok.frames, I.ok.mod, I.bs, Nat.le_trans I.ok.bsz I.sz, I.stack, I.stkFree, I.hok, I.bare⟩
/-- behind a call -/
theorem Inv.after {Q : VK} {u : Value} (I : Inv X pins σ H s) (h : CE X.stack X.prog X.w H s Q u s') : EP X pins σ Q u s' := by
  obtain ⟨v, H', os, bare, un, hok, r, q⟩ := h
  obtain ⟨hh, g, d, t, os'⟩ := s'
  obtain rfl : os' = s.os := os
  exact ⟨v, H', I.call (h' := hh) (g' := g) (d' := d) (t' := t) (ch := []) un hok bare (fun b z => absurd z (by simp)), r, q⟩
end

/-! ### calls -/
/-- f(..): the written arguments, then the defaults dvs; E: what is wanted of an exception -/
def tCall (sp : Sp) (dvs : List V) (E : XK) (t : TA) : TE := fun σ H Q => t σ H fun vs H1 => sp (vs ++ dvs) H1 Q E
/-- how the parameters are bound: us the positional arguments, kw the keywords' values by name, ds the defaults that fill up -/
def Binds (K : PySem.W.Frag) (fd : FuncData) (ps : List Str) (ds : List Value) : Prop :=
  ∀ (s : Shared) (us : List Value), K.In s.heap → (us ++ ds).length = ps.length → BindsTo s fd ⟨us, []⟩ (ps.zip (us ++ ds))
/-- every parameter is given -/
theorem Binds.all {K : PySem.W.Frag} {fd : FuncData} {ps : List Str} (h : ∀ us : List Value, us.length = ps.length → bindArgs fd ⟨us, []⟩ = pure (ps.zip us)) : Binds K fd ps [] := fun s us _ hl => by
  rw [List.append_nil] at hl ⊢
  exact .of_eq (h us hl)

/-- an exception of a callee reaches what this body wants of exceptions -/
def Passes (CX : CXT) (X : Cx) (E : XK) : Prop := ∀ (pins : List (Addr × Obj)) (σ : St) (H : Hp) (s : Shared) (e : Value) (s' : Shared), Inv X pins σ H s → CX X.stack H s E e s' → X.xe e s'

section
variable {X : Cx} {CX : CXT} {k : Nat} {f C : Addr} {fd : FuncData} {ps : List Str} {sp : Sp} {dvs : List V} {ds : List Value} {E : XK} {x m : Str} {p pos apos : Pos} {e o : Expr} {es : List Expr} {ta : TE} {t : TA}

/-- the callee runs -/
theorem run_fn {pins : List (Addr × Obj)} {σ : St} {H : Hp} {s : Shared} {Q : VK} {us : List Value} {vs : List V} (F : FnOk X.prog X.w X.K X.mg X.base CX k f fd ps sp) (hr : Room k X.A) (hb : Binds X.K fd ps ds) (hd : Vals dvs ds) (hx : Passes CX X E)
    (I : Inv X pins σ H s) (r : Vals vs us) (h : sp (vs ++ dvs) H Q E) : wpAny (model X.prog X.w) X.A (call (.ref f) us) (EP X pins σ Q) X.xe s := by
  have r2 : Vals (vs ++ dvs) (us ++ ds) := r.append hd
  have hl : (us ++ ds).length = ps.length := by rw [← r2.length]; exact F.len _ _ _ _ h
  refine wpAny_call (codeAny_mono (F.run X.A X.stack s H ⟨us, []⟩ (us ++ ds) (vs ++ dvs) Q E hr I.env0 (hb s us I.kIn hl) r2 h) fun r s' hq => ?_)
  cases r with
  | error e => exact hx pins σ H s e s' I hq
  | ok fl =>
    cases fl with
    | ret u => exact I.after hq
    | next => exact False.elim hq
    | brk => exact False.elim hq
    | cont => exact False.elim hq

theorem pe_call (F : FnOk X.prog X.w X.K X.mg X.base CX k f fd ps sp) (hr : Room k X.A) (hg : Gl X x) (hm : X.mg x = some (.ref f)) (hk : PySem.W.keepIn X.K (.ref f) = true) (hb : Binds X.K fd ps ds) (hd : Vals dvs ds) (hx : Passes CX X E)
    (ha : PA X (e :: es) t) (hdb : (x == ("__debug__" : Str)) = false := by decide) (he : starEach (e :: es) X.env = (false, eval e X.env) :: starEach es X.env := by rfl) (hpl : (backTo pos (starEach es X.env)).any (·.1) = false := by rfl) :
    PE X (.Call (.Name x p) (e :: es) [] pos) (tCall sp dvs E t) := by
  intro pins s σ H Q I h
  refine wpAny_Call_Name_kw (ld_glob I hg hm ?_ hdb)
  refine PySem.W.callWith_K (h₀ := X.base) I.ok.mod.kin hk (thn (ha pos pins s σ H _ I h) fun us s1 ⟨vs, H1, I1, r, q⟩ => ⟨I1.kIn, ?_⟩) he hpl
  exact run_fn F hr hb hd hx I1 r q
end

section
variable {X : Cx} {CX : CXT} {k : Nat} {f C : Addr} {fd : FuncData} {ps ks : List Str} {sp : Sp} {E : XK} {x m : Str} {p pos apos kpos : Pos} {e o : Expr} {es : List Expr} {kws : List Keyword} {te ta : TE} {t tk : TA} {nm : Option Str}
variable {g : List Value → List Value → List Value} {gV : List V → List V → List V}
end

/-! ### a def's body keeps its promise -/
/-- names: the parameters first -/
structure FnScope (N P : List Str) (sc : Scope) : Prop where
  kind : sc.kind = .function
  co : sc.isCoroutine = false
  gen : sc.isGenerator = false
  nd : N.Nodup
  pre : N.take P.length = P
  par : ∀ x ∈ P, sc.names.lookup x = some .local ∨ sc.names.lookup x = some .cell
  nofree : ∀ y ∈ sc.names, y.2 ≠ .free

theorem bindL_out {kindOf : Str → Option NameKind} {x : Str} : ∀ {binds : List (Str × Value)} {m : Str → Option Value}, (∀ v, (x, v) ∉ binds) → bindL kindOf binds m x = m x
  | [], _, _ => rfl
  | (n, v) :: r, m, h => by
    unfold bindL
    rw [bindL_out fun w hw => h w (List.mem_cons_of_mem _ hw)]
    split
    · have : x ≠ n := by rintro rfl; exact h v List.mem_cons_self
      simp [this]
    · rfl
theorem bindC_out {kindOf : Str → Option NameKind} {x : Str} : ∀ {binds : List (Str × Value)} {m : Str → Option Value}, (∀ v, (x, v) ∉ binds) → bindC kindOf binds m x = m x
  | [], _, _ => rfl
  | (n, v) :: r, m, h => by
    unfold bindC
    rw [bindC_out fun w hw => h w (List.mem_cons_of_mem _ hw)]
    split
    · rfl
    · have : x ≠ n := by rintro rfl; exact h v List.mem_cons_self
      simp [this]
theorem bindL_get {kindOf : Str → Option NameKind} {x : Str} {v : Value} : ∀ {P : List Str} {vs : List Value} {i : Nat} {m : Str → Option Value}, P.Nodup → P[i]? = some x → vs[i]? = some v → kindOf x = some .local →
    bindL kindOf (P.zip vs) m x = some v
  | [], _, _, _, _, h, _, _ => by simp at h
  | _ :: _, [], _, _, _, _, h, _ => by simp at h
  | p :: P, w :: vs, 0, m, nd, h1, h2, hk => by
    simp at h1 h2; subst h1; subst h2
    show bindL kindOf ((p, w) :: P.zip vs) m p = _
    unfold bindL
    rw [bindL_out fun v hv => (List.nodup_cons.mp nd).1 (List.of_mem_zip hv).1, if_pos hk]
    simp
  | p :: P, w :: vs, i + 1, m, nd, h1, h2, hk => by
    show bindL kindOf ((p, w) :: P.zip vs) m x = _
    unfold bindL
    exact bindL_get (i := i) (List.nodup_cons.mp nd).2 (by simpa using h1) (by simpa using h2) hk
theorem bindC_get {kindOf : Str → Option NameKind} {x : Str} {v : Value} : ∀ {P : List Str} {vs : List Value} {i : Nat} {m : Str → Option Value}, P.Nodup → P[i]? = some x → vs[i]? = some v → kindOf x ≠ some .local →
    bindC kindOf (P.zip vs) m x = some v
  | [], _, _, _, _, h, _, _ => by simp at h
  | _ :: _, [], _, _, _, _, h, _ => by simp at h
  | p :: P, w :: vs, 0, m, nd, h1, h2, hk => by
    simp at h1 h2; subst h1; subst h2
    show bindC kindOf ((p, w) :: P.zip vs) m p = _
    unfold bindC
    rw [bindC_out fun v hv => (List.nodup_cons.mp nd).1 (List.of_mem_zip hv).1, if_neg hk]
    simp
  | p :: P, w :: vs, i + 1, m, nd, h1, h2, hk => by
    show bindC kindOf ((p, w) :: P.zip vs) m x = _
    unfold bindC
    exact bindC_get (i := i) (List.nodup_cons.mp nd).2 (by simpa using h1) (by simpa using h2) hk

/-- the names' values at the entry -/
def start (N : List Str) (vs : List V) : St := vs.map some ++ List.replicate (N.length - vs.length) none

/-- the context of a def's body, at its entry; an exception leaves the frame, then lies as CX says -/
def cxOf (CX : CXT) (P : Program) (w : World) (K : PySem.W.Frag) (mg : Str → Option Value) (base : Heap) (N : List Str) (qual : Str) (scope : Scope) (f : Addr) (cd : Value) (A : Around) (outer : List Env) (s : Shared) (H : Hp) (E : XK) : Cx where
  prog := P
  w := w
  K := K
  mg := mg
  base := base
  A := A.deeper (envOfC qual scope s.heap.objs.size f cd)
  N := N
  s_0 := s
  H_0 := H
  env := envOfC qual scope s.heap.objs.size f cd
  outer := outer
  stack := envOfC qual scope s.heap.objs.size f cd :: outer
  ex := []
  calm := true
  fn := fun _ => true
  pn := []
  xe := fun e s' => wpAny (model P w) (A.deeper (envOfC qual scope s.heap.objs.size f cd)) (leaving (envOfC qual scope s.heap.objs.size f cd) e) (fun _ s'' => CX outer H s E e s'') (fun e' s'' => CX outer H s E e' s'') s'

theorem cell_has {sc : Scope} {n : Nat} {x : Str} (h : sc.names.lookup x = some .cell) : ∃ c, (cellsFrom n sc.names []).lookup x = some c := by
  have q := PySem.W.cellsFrom_some sc.names n [] (.inl h)
  exact Option.isSome_iff_exists.mp q

theorem inv_start {CX : CXT} {P : Program} {w : World} {K : PySem.W.Frag} {mg : Str → Option Value} {base : Heap} {N ps : List Str} {qual : Str} {scope : Scope} {f : Addr} {cd : Value} {A : Around} {outer : List Env} {s s1 : Shared} {H : Hp} {E : XK} {us : List Value} {vs : List V}
    (S : FnScope N ps scope) (hd : A.handled = none) (e0 : Env0 P w K mg base A outer s H) (hl : vs.length = ps.length) (r : Vals vs us)
    (x : InCallC s s.heap.objs.size (bindL (envOfC qual scope s.heap.objs.size f cd).kindOf (ps.zip us) fun _ => none) (cellsFrom (s.heap.objs.size + 1) scope.names []) (bindC (envOfC qual scope s.heap.objs.size f cd).kindOf (ps.zip us) fun _ => none) s1) :
    Inv (cxOf CX P w K mg base N qual scope f cd A outer s H E) [] (start N vs) H s1 := by
  have hpl : ps.length ≤ N.length := by have := congrArg List.length S.pre; rw [List.length_take] at this; omega
  obtain ⟨h1, tk, rfl, hk⟩ := x.done
  have noA : ∀ b : Addr, b ∉ (cxOf CX P w K mg base N qual scope f cd A outer s H E).ex := fun b z => absurd (show b ∈ ([] : List Addr) from z) (by simp)
  refine ⟨⟨e0.mod, S.kind, rfl, rfl, Nat.le_refl _, fun y z c h1 h2 => ?_, fun y hy => ?_, fun y c _ h => ?_, fun _ => hd, Around.frames_deeper e0.frames, .inr ⟨rfl, rfl⟩, fun b z => absurd z (noA b), e0.bs, e0.bsz, fun b _ _ => noA b, fun b z => absurd z (noA b), e0.funs, e0.frf⟩,
    rfl, e0.bare, Un.kept hk, ⟨_, x.toInCall.ns, fun i y v h1 h2 h3 => ?_⟩, fun y c h => ⟨_, x.cell y c h⟩, e0.hok.fresh (Nat.le_refl _), fun y c h => ?_, fun p hp => absurd (show p ∈ ([] : List (Addr × Obj)) from hp) (by simp), e0.hok.kept hk, ?_⟩
  · exact name_of_addr x.apart (PySem.mem_of_lookup h1) (PySem.mem_of_lookup h2)
  · have hy : scope.names.lookup y = some .cell ∨ scope.names.lookup y = some .free := hy
    rcases hy with hy | hy
    · exact cell_has hy
    · exact absurd rfl (S.nofree _ (PySem.mem_of_lookup hy))
  · exact Nat.le_of_lt (x.above y c (PySem.mem_of_lookup h))
  · have hi : i < vs.length := by
      unfold start at h2
      by_cases hi : i < vs.length
      · exact hi
      · rw [List.getElem?_append_right (by simpa using hi)] at h2
        rw [List.getElem?_replicate] at h2
        split at h2 <;> cases h2
    have ha : vs[i]? = some v := by
      unfold start at h2
      rw [List.getElem?_append_left (by simpa using hi), List.getElem?_map] at h2
      cases e : vs[i]? with
      | none => rw [e] at h2; cases h2
      | some a => rw [e] at h2; cases h2; rfl
    obtain ⟨u, hu, rv⟩ := r.get ha
    have hp : ps[i]? = some y := by
      rw [← S.pre, List.getElem?_take_of_lt (by omega)]; exact h1
    have ndP : ps.Nodup := by rw [← S.pre]; exact S.nd.sublist (List.take_sublist _ _)
    refine ⟨u, rv, ?_⟩
    rcases S.par y (List.mem_of_getElem? hp) with k | k
    · exact .inl ⟨k, bindL_get ndP hp hu k⟩
    · obtain ⟨c, e⟩ := cell_has (n := s.heap.objs.size + 1) k
      refine .inr ⟨.inl k, c, e, ?_⟩
      have q := x.cell y c e
      rw [bindC_get ndP hp hu (by show scope.names.lookup y ≠ _; rw [k]; decide)] at q
      exact q
  · exact e0.hok.fresh (Nat.le_of_lt (x.above y c (PySem.mem_of_lookup h)))
  · unfold start
    show _ = N.length
    rw [List.length_append, List.length_map, List.length_replicate]
    omega

/-- THE RULE: a def (or a method) of the text, by its body. The body's reading t is chosen for each entry; it is run at the parameters' values -/
theorem fn_of {CX : CXT} {P : Program} {w : World} {K : PySem.W.Frag} {mg : Str → Option Value} {base : Heap} {k : Nat} {f : Addr} {name qual : Str} {params : Arguments} {body : List Stmt} {scope : Scope} {dV kV doc pm cdv ct oc : Value} {an od : Option Addr}
    {osl : Array (Option Value)} {N ps : List Str} {sp : Sp} (lk : K.lookup f = some ⟨oc, od, .func (PySem.W.fnOf name qual params body scope dV kV doc pm an cdv ct), osl⟩) (hcd : PySem.W.codeIn K cdv qual = true) (S : FnScope N ps scope)
    (len : ∀ vs H Q E, sp vs H Q E → vs.length = ps.length)
    (hbody : ∀ (A : Around) (outer : List Env) (s : Shared) (H : Hp) (vs : List V) (Q : VK) (E : XK), Room k (A.deeper (envOfC qual scope s.heap.objs.size f cdv)) → sp vs H Q E →
      ∃ t, PSs (cxOf CX P w K mg base N qual scope f cdv A outer s H E) body t ∧ t { nx := fun _ H' => Q .non H', rt := Q } (start N vs) H) :
    FnOk P w K mg base CX (k + 1) f (PySem.W.fnOf name qual params body scope dV kV doc pm an cdv ct) ps sp := by
  refine ⟨len, fun A outer s H args us vs Q E hr e0 hb r hsp => ?_⟩
  have hl := len _ _ _ _ hsp
  have KX : K.In s.heap := e0.mod.kin.keeps fun b o e => (e0.bs b o e).1
  have lim : s.heap.NoLimit := e0.mod.nolimit.keeps fun b o e => (e0.bs b o e).1
  have hkind : ∀ y ∈ ps.zip us, scope.names.lookup y.1 = some .local ∨ (scope.names.lookup y.1 = some .cell ∧ ((cellsFrom (s.heap.objs.size + 1) scope.names []).lookup y.1).isSome = true) := fun ⟨n, v⟩ hy => by
    rcases S.par n (List.of_mem_zip hy).1 with q | q
    · exact .inl q
    · exact .inr ⟨q, PySem.W.cellsFrom_some _ _ _ (.inl q)⟩
  refine codeAny_call_function hr.depth (KX _ _ lk) rfl S.co S.gen rfl (PySem.W.codeRec_of KX hcd) (hb _ _ _ _ ?_)
  refine wpAny_newFunctionEnv_cells S.kind hkind fun env he s1 x => ?_
  subst he
  refine ⟨lim.keeps x.toInCall.keep, codeAny_func ?_⟩
  obtain ⟨t, ht, hq⟩ := hbody A outer s H vs Q E (hr.deeper _) hsp
  have I : Inv (cxOf CX P w K mg base N qual scope f cdv A outer s H E) [] (start N vs) H s1 := inv_start S hr.hd e0 hl r x
  refine wpAny_mono (ht [] s1 (start N vs) H _ I hq) (fun fl s' hs => ?_) fun e s' hs => hs
  have fin : ∀ {σ' : St} {H' : Hp} {v : V} {u : Value}, Inv (cxOf CX P w K mg base N qual scope f cdv A outer s H E) [] σ' H' s' → RelV v u → Q v H' → CE outer P w H s Q u s' :=
    fun {σ' H' v u} J rv q => ⟨v, H', J.os, J.bare, J.base, J.hok, rv, q⟩
  cases fl with
  | ret u =>
    obtain ⟨v, σ', H', J, rv, q⟩ := hs
    exact fin J rv q
  | next =>
    obtain ⟨σ', H', J, q⟩ := hs
    exact fin (v := V.non) (u := Value.none) J rfl q
  | brk =>
    obtain ⟨_, _, _, q⟩ := hs
    exact False.elim q
  | cont =>
    obtain ⟨_, _, _, q⟩ := hs
    exact False.elim q
end L2

namespace L2
open PySem PySem.Spec PyProof.Rows
section
variable {X : Cx} {x : Str} {p pos : Pos} {e : Expr} {es : List Expr} {t : TA} {id T : String} {r : List V → Hp → VK → Prop}

def tCB (r : List V → Hp → VK → Prop) (t : TA) : TE := fun σ H Q => t σ H fun vs H1 => r vs H1 Q
/-- f(e, ..), f a built-in function -/
theorem pe_callB (hc : CallR X (.builtin id) r) (hg : Gl X x) (hm : X.mg x = none) (hv : bootBuiltins x = some (.builtin id)) (ha : PA X (e :: es) t) (hn : x ≠ "__name__" := by decide) (hdb : (x == ("__debug__" : Str)) = false := by decide)
    (he : starEach (e :: es) X.env = (false, eval e X.env) :: starEach es X.env := by rfl) (hpl : (backTo pos (starEach es X.env)).any (·.1) = false := by rfl) : PE X (.Call (.Name x p) (e :: es) [] pos) (tCB r t) := by
  intro pins s σ H Q I h
  refine wpAny_Call_Name_kw (ld_blt I hg hm hv ?_ hn hdb)
  exact PyProof.Rows.callWith_builtin1 (thn (ha pos pins s σ H _ I h) fun us s1 ⟨vs, H1, I1, r1, q1⟩ => hc pins s1 σ H1 vs us Q I1 r1 q1) he hpl
/-- T(e, ..), T a built-in type -/
theorem pe_callTy (hc : CallR X (.type T) r) (hg : Gl X x) (hm : X.mg x = none) (hv : bootBuiltins x = some (.type T)) (ha : PA X (e :: es) t) (hn : x ≠ "__name__" := by decide) (hdb : (x == ("__debug__" : Str)) = false := by decide)
    (he : starEach (e :: es) X.env = (false, eval e X.env) :: starEach es X.env := by rfl) (hpl : (backTo pos (starEach es X.env)).any (·.1) = false := by rfl) : PE X (.Call (.Name x p) (e :: es) [] pos) (tCB r t) := by
  intro pins s σ H Q I h
  refine wpAny_Call_Name_kw (ld_blt I hg hm hv ?_ hn hdb)
  exact PyProof.Rows.callWith_type1 (thn (ha pos pins s σ H _ I h) fun us s1 ⟨vs, H1, I1, r1, q1⟩ => hc pins s1 σ H1 vs us Q I1 r1 q1) he hpl
end
end L2

namespace HT
open PySem PyProof.Rows

section
open PySem.SeqAt
open PySem.AutoSeq1 (wpAny_loadPart')
open PySem.MeetsSeq PySem.MeetsSeq2 PySem.MeetsSeq3

end

section
variable {prog : Program} {w : World} {A : Around} {E : Value → Shared → Prop} {s : Shared}

/-- t + u, t not empty -/
theorem cat_tup {t b : Addr} {vs ws : List Value} {Q : Value → Shared → Prop} (ht : IsTup s.heap t vs.toArray) (hb : IsTup s.heap b ws.toArray) (hv : vs ≠ [])
    (h1 : ws = [] → Q (.ref t) s) (h2 : ws ≠ [] → Q (.ref s.heap.objs.size) { s with heap := s.heap.push { cls := .type "tuple", data := .seq (vs ++ ws).toArray } })
    (hsz : vs.length + ws.length ≤ sizeLine) : wpAny (model prog w) A (binaryOp .Add (.ref t) (.ref b)) Q E s := by
  obtain ⟨⟨cls, dd, data, sl⟩, ho, hc, n, hd⟩ := id ht
  obtain ⟨⟨cls2, dd2, data2, sl2⟩, ho2, hc2, n2, hd2⟩ := id hb
  simp only at hc hd hc2 hd2
  subst hc hd hc2 hd2
  have e : vs.toArray ++ ws.toArray = (vs ++ ws).toArray := by simp
  by_cases hw : ws = []
  · exact concat_meets ⟨_, ho, rfl⟩ ⟨_, ho2, rfl⟩ noFill_tuple_add seq_tuple_add PySem.F.slot_tuple_add PySem.F.entry_tuple_add (PySem.F.args_tuple_add_2 _ _)
      (tuple_addW1 t b vs.toArray ws.toArray n n2 dd dd2 sl sl2 (by simpa using hv) (by simp [hw])) ⟨ho, ho2, h1 hw⟩
  · refine concat_meets ⟨_, ho, rfl⟩ ⟨_, ho2, rfl⟩ noFill_tuple_add seq_tuple_add PySem.F.slot_tuple_add PySem.F.entry_tuple_add (PySem.F.args_tuple_add_2 _ _)
      (tuple_addW2 t b vs.toArray ws.toArray n n2 dd dd2 sl sl2 (by simpa using hv) (by simpa using hw) (by rw [List.size_toArray, List.size_toArray]; exact hsz)) ⟨ho, ho2, ?_⟩
    rw [e]
    exact h2 hw

/-! ### t[a:b], not the whole -/
/-- a slice's bound as a place among n (d where it is left out) -/
def sIx (n d : Nat) : Option Int → Nat
  | none => d
  | some v => if v < 0 then (v + (n : Int)).toNat else min v.toNat n
theorem sIx_none (n d : Nat) : sIx n d none = d := rfl
theorem sIx_le (n d : Nat) (hd : d ≤ n) (o : Option Int) : sIx n d o ≤ n := by
  cases o with
  | none => exact hd
  | some v =>
    show (if v < 0 then (v + (n : Int)).toNat else min v.toNat n) ≤ n
    by_cases hv : v < 0
    · rw [if_pos hv]; omega
    · rw [if_neg hv]; exact Nat.min_le_right _ _
theorem clip_eq (v : Int) (n d : Nat) : (if v < 0 then max (v + (n : Int)) 0 else min v (n : Int)) = ((sIx n d (some v) : Nat) : Int) := by
  show (if v < 0 then max (v + (n : Int)) 0 else min v (n : Int)) = (((if v < 0 then (v + (n : Int)).toNat else min v.toNat n) : Nat) : Int)
  by_cases hv : v < 0
  · simp only [if_pos hv]; omega
  · simp only [if_neg hv]; omega
theorem adjust_gen (lo hi : Option Int) (n : Nat) : Builtin.Slice.sliceAdjust lo hi 1 (n : Int) = (((sIx n 0 lo : Nat) : Int), ((sIx n n hi : Nat) : Int)) := by
  have h1 : ¬ ((1 : Int) < 0) := by omega
  unfold Builtin.Slice.sliceAdjust
  simp only [h1, if_false]
  refine Prod.ext ?_ ?_
  · cases lo with
    | none => rfl
    | some v => exact clip_eq v n 0
  · cases hi with
    | none => rfl
    | some v => exact clip_eq v n n
theorem places_gen (i j : Nat) : Builtin.Slice.slicePlaces (i : Int) (j : Int) 1 = j - i := by
  unfold Builtin.Slice.slicePlaces
  have h1 : (1 : Int) > 0 := by omega
  simp only [h1, if_true, Int.ediv_one]
  split <;> omega
theorem slicePart_ {v : Value} {o : Option Int} {Q : Option Int → Shared → Prop} (p : IsPart v o) (h : Q o s) : wpAny (model prog w) A (Builtin.Slice.slicePartIndex v) Q E s := by
  cases p with
  | none => exact slicePart_none h
  | int i t => exact slicePart_int h
theorem sliceApplied_gen {sl : Addr} {vl vu : Value} {lo hi : Option Int} {n : Nat} {Q : Int × Int × Nat → Shared → Prop} (hs : s.heap.IsSliceOf sl vl vu .none) (pl : IsPart vl lo) (pu : IsPart vu hi)
    (h : Q (((sIx n 0 lo : Nat) : Int), 1, sIx n n hi - sIx n 0 lo) s) : wpAny (model prog w) A (Builtin.Slice.sliceApplied (.ref sl) (pure (n : Int))) Q E s := by
  obtain ⟨os, hos, hcs, hds⟩ := id hs
  unfold Builtin.Slice.sliceApplied Builtin.Slice.sliceFields
  refine wpAny_bind (wpAny_bind (wpAny_field hos hds (x := vl) rfl (wpAny_bind (wpAny_field hos hds (x := vu) rfl (wpAny_bind (wpAny_field hos hds (x := .none) rfl (wpAny_pure ?_)))))))
  refine wpAny_bind (slicePart_none ?_)
  show wpAny _ _ (if ((1 : Int) == 0) = true then _ else _) _ _ s
  rw [if_neg (by decide)]
  refine wpAny_bind (slicePart_ pl (wpAny_bind (slicePart_ pu (wpAny_bind (wpAny_pure ?_)))))
  show wpAny _ _ (match Builtin.Slice.sliceAdjust lo hi 1 (n : Int) with | (lo, hi) => pure (lo, (1 : Int), Builtin.Slice.slicePlaces lo hi 1)) _ _ s
  rw [adjust_gen lo hi n]
  show wpAny _ _ (pure (((sIx n 0 lo : Nat) : Int), (1 : Int), Builtin.Slice.slicePlaces ((sIx n 0 lo : Nat) : Int) ((sIx n n hi : Nat) : Int) 1)) _ _ s
  rw [places_gen]
  exact wpAny_pure h
theorem pick_gen (xs : Array Value) (i k : Nat) : ((List.range k).filterMap fun (m : Nat) => xs[((i : Int) + (m : Int) * 1).toNat]?).toArray = ((xs.toList.drop i).take k).toArray := by
  have e : (fun (m : Nat) => xs[((i : Int) + (m : Int) * 1).toNat]?) = fun m => xs[i + m]? := by
    funext m
    have : ((i : Int) + (m : Int) * 1).toNat = i + m := by omega
    rw [this]
  rw [e]
  have := pick_run xs i k
  rw [List.filterMap_map] at this
  have e2 : ((fun x => xs[x]?) ∘ fun x => i + x) = fun m => xs[i + m]? := rfl
  rw [e2] at this
  rw [this]

theorem getItem_tuple_cut {t sl : Addr} {items : Array Value} {vl vu : Value} {lo hi : Option Int} {Q : Value → Shared → Prop} (ht : IsTup s.heap t items) (hs : s.heap.IsSliceOf sl vl vu .none) (pl : IsPart vl lo) (pu : IsPart vu hi)
    (hw : ¬ (sIx items.size 0 lo = 0 ∧ sIx items.size items.size hi = items.size))
    (h : Q (.ref s.heap.objs.size) { s with heap := s.heap.push { cls := .type "tuple", data := .seq ((items.toList.drop (sIx items.size 0 lo)).take (sIx items.size items.size hi - sIx items.size 0 lo)).toArray } })
    (hsz : items.size ≤ sizeLine) : wpAny (model prog w) A (getItem (.ref t) (.ref sl)) Q E s := by
  have htake : sizeOk (.seq ((items.toList.drop (sIx items.size 0 lo)).take (sIx items.size items.size hi - sIx items.size 0 lo)).toArray) := by
    show ((items.toList.drop (sIx items.size 0 lo)).take (sIx items.size items.size hi - sIx items.size 0 lo)).toArray.size ≤ sizeLine
    rw [List.size_toArray, List.length_take, List.length_drop, Array.length_toList]
    omega
  have hj : sIx items.size items.size hi ≤ items.size := sIx_le _ _ (Nat.le_refl _) hi
  obtain ⟨os, hos, hcs, hds⟩ := id hs
  have hTs : s.TypeIs (.ref sl) "slice" := ⟨os, hos, hcs⟩
  unfold getItem
  try with_reducible refine wpAny_holding ?_
  first | refine wpAny_bind (wpAny_pure ?_) | skip
  refine wpAny_bind (wpAny_sequenceKey ht.typeIs (by decide) ?_)
  refine wpAny_bind (wpAny_callSpecial?_slot (name := Str.ofString "__getitem__") ht.typeIs PyProof.Rows.slot_tuple_getitem
    (wpAny_call_entry PyProof.Rows.slot_tuple_getitem ht.typeIs entry_tuple_getitem ?_ (args_tuple_getitem _ _)))
  show wpAny _ _ (Builtin.Tuple.tupleItemsOf (.ref t) >>= _) _ _ s
  refine wpAny_bind (tupleItemsOf_ ht ?_)
  refine wpAny_bind (wpAny_typeOf hTs ?_)
  rw [if_pos (by decide)]
  refine wpAny_bind (sliceApplied_gen hs pl pu ?_)
  have hno : ¬ ((((sIx items.size 0 lo : Nat) : Int) == 0 && (1 : Int) == 1 && (sIx items.size items.size hi - sIx items.size 0 lo) == items.size) = true) := by
    intro q
    rw [Bool.and_eq_true, Bool.and_eq_true] at q
    have q1 : ((sIx items.size 0 lo : Nat) : Int) = 0 := eq_of_beq q.1.1
    have q2 : sIx items.size items.size hi - sIx items.size 0 lo = items.size := eq_of_beq q.2
    exact hw ⟨by omega, by omega⟩
  show wpAny _ _ (if (((sIx items.size 0 lo : Nat) : Int) == 0 && (1 : Int) == 1 && (sIx items.size items.size hi - sIx items.size 0 lo) == items.size) = true then _ else _) _ _ s
  rw [if_neg hno, pick_gen]
  first
    | exact wpAny_bind (m := Builtin.Tuple.tupleExact _) (wpAny_newObj_type (wpAny_pure ⟨_, rfl, wpAny_pure h⟩) htake)
    | exact wpAny_bind (m := Builtin.Tuple.tupleExact _) (wpAny_newObj_type (wpAny_bind (wpAny_pure (wpAny_pure ⟨_, rfl, wpAny_pure h⟩))) htake)
    | exact wpAny_bind (wpAny_bind (m := Builtin.Tuple.tupleExact _) (wpAny_newObj_type (wpAny_pure (wpAny_pure ⟨_, rfl, wpAny_pure h⟩)) htake))
    | exact wpAny_bind (wpAny_bind (m := Builtin.Tuple.tupleExact _) (wpAny_newObj_type (wpAny_pure ⟨_, rfl, wpAny_pure h⟩) htake))
end
end HT

namespace L2
open PySem PySem.Spec PyProof.Rows

/-! ### the parts of a slice -/
abbrev TO := St → Hp → (Option Int → Hp → Prop) → Prop
/-- a slice's part (left out, or an int) -/
def PO (X : Cx) (e : Option Expr) (t : TO) : Prop :=
  ∀ (pins : List (Addr × Obj)) (s : Shared) (σ : St) (H : Hp) (Q : Option Int → Hp → Prop), Inv X pins σ H s → t σ H Q →
    wpAny (model X.prog X.w) X.A (evalPart e X.env) (fun u s' => ∃ o H', Inv X pins σ H' s' ∧ IsPart u o ∧ Q o H') X.xe s
def tNoPart : TO := fun _ H Q => Q none H
def tPart (t : TE) : TO := fun σ H Q => t σ H fun x H1 => ∃ i, x = .int i ∧ Q (some i) H1

section
variable {X : Cx} {e : Expr} {te : TE} {lo hi : Option Expr} {tl th : TO} {pos p2 : Pos}

theorem po_none : PO X none tNoPart := by
  intro pins s σ H Q I h
  rw [evalPart_none]
  exact wpAny_pure ⟨none, H, I, .none, h⟩
theorem po_some (h : PE X e te) : PO X (some e) (tPart te) := by
  intro pins s σ H Q I hw
  rw [evalPart_some]
  refine thn (h pins s σ H _ I hw) fun u s1 ⟨x, H1, I1, r1, q1⟩ => ?_
  obtain ⟨i, rfl, q⟩ := q1
  obtain ⟨t, rfl⟩ := r1
  exact ⟨some i, H1, I1, .int i t, q⟩

/-- what a slice of a value is, by values: the slice object stands at sl -/
def SlR (X : Cx) (r : V → Option Int → Option Int → Hp → VK → Prop) : Prop :=
  ∀ (pins : List (Addr × Obj)) (s : Shared) (σ : St) (H : Hp) (x : V) (v vl vu : Value) (lo hi : Option Int) (sl : Addr) (Q : VK), Inv X pins σ H s → RelV x v → s.heap.IsSliceOf sl vl vu .none → IsPart vl lo → IsPart vu hi → r x lo hi H Q →
    ∃ T id, typeLookup (.type T) "__getitem__" = pure (some (.builtin id)) ∧ s.TypeIs v T ∧ wpAny (model X.prog X.w) X.A (getItem v (.ref sl)) (EP X pins σ Q) X.xe s
theorem SlR.or {r r' : V → Option Int → Option Int → Hp → VK → Prop} (h : SlR X r) (h' : SlR X r') : SlR X (fun x lo hi H Q => r x lo hi H Q ∨ r' x lo hi H Q) := by
  intro pins s σ H x v vl vu lo hi sl Q I rx hs pl pu q
  rcases q with q | q
  · exact h pins s σ H x v vl vu lo hi sl Q I rx hs pl pu q
  · exact h' pins s σ H x v vl vu lo hi sl Q I rx hs pl pu q
def tSl (r : V → Option Int → Option Int → Hp → VK → Prop) (te : TE) (tl th : TO) : TE := fun σ H Q => te σ H fun x H1 => tl σ H1 fun l H2 => th σ H2 fun u H3 => r x l u H3 Q
/-- a[lo:hi], any a -/
theorem pe_slice {r : V → Option Int → Option Int → Hp → VK → Prop} (hr : SlR X r) (he : PE X e te) (hl : PO X lo tl) (hu : PO X hi th) : PE X (.Subscript e (.Slice lo hi none p2) pos) (tSl r te tl th) := by
  intro pins s σ H Q I h
  refine Subscript_ (thn (he pins s σ H _ I h) fun v s1 ⟨x, H1, I1, r1, q1⟩ => ?_)
  refine wpAny_Slice (thn (hl pins s1 σ H1 _ I1 q1) fun vl s2 ⟨l, H2, I2, pl, q2⟩ => thn (hu pins s2 σ H2 _ I2 q2) fun vu s3 ⟨u, H3, I3, pu, q3⟩ => ?_)
  rw [evalPart_none]
  refine wpAny_pure ?_
  have I4 : Inv X pins σ H3 { s3 with heap := s3.heap.push { cls := .type "slice", data := .fields #[vl, vu, .none] } } := I3.kept (t' := s3.toks) fun b ob q => Heap.get?_push_of_some _ q
  obtain ⟨T, id, hT, ht, hg⟩ := hr pins { s3 with heap := s3.heap.push { cls := .type "slice", data := .fields #[vl, vu, .none] } } σ H3 x v vl vu l u s3.heap.objs.size Q I4 r1 (Heap.IsSliceOf.new ..) pl pu q3
  show wpAny (model X.prog X.w) X.A (subscriptTail e (.Slice lo hi none p2) v (.ref s3.heap.objs.size)) (EP X pins σ Q) X.xe { s3 with heap := s3.heap.push { cls := .type "slice", data := .fields #[vl, vu, .none] } }
  exact tail_any (ops := [.ref s3.heap.objs.size, v]) ht hT hg (by with_unfolding_all rfl)

/-- the items of xs[lo:hi] -/
def cutV (xs : List V) (lo hi : Option Int) : List V := (xs.drop (HT.sIx xs.length 0 lo)).take (HT.sIx xs.length xs.length hi - HT.sIx xs.length 0 lo)
theorem cutV_length (xs : List V) (lo hi : Option Int) : (cutV xs lo hi).length ≤ xs.length := by
  unfold cutV
  rw [List.length_take, List.length_drop]
  omega
/-- t[lo:hi], not the whole of it (the whole would be t itself) -/
def rSlT (K : PySem.W.Frag) : V → Option Int → Option Int → Hp → VK → Prop := fun x lo hi H Q => ∃ a xs, x = .ref a ∧ SqT K H a xs ∧
  ¬ (HT.sIx xs.length 0 lo = 0 ∧ HT.sIx xs.length xs.length hi = xs.length) ∧ ∀ p, H p = none → Q (.ref p) (upd H p (.tup (cutV xs lo hi)))
theorem sl_tup : SlR X (rSlT X.K) := by
  intro pins s σ H x v vl vu lo hi sl Q I rx hs pl pu h
  obtain ⟨a, xs, rfl, hx, hw, q⟩ := h
  cases rx
  obtain ⟨its, r, ht, hz⟩ := I.tuple hx
  have hlen : its.toArray.size = xs.length := by rw [List.size_toArray]; exact r.length.symm
  refine ⟨"tuple", _, PyProof.Rows.slot_tuple_getitem.lookup, ht.typeIs, ?_⟩
  refine HT.getItem_tuple_cut ht hs pl pu (by rw [hlen]; exact hw) ?_ (by rw [hlen]; exact hz)
  rw [hlen]
  refine ⟨.ref s.heap.objs.size, _, I.laid (t' := s.toks) (o := .tup (cutV xs lo hi)) (fun b ob q => Heap.get?_push_of_some _ q) (Nat.le_refl _) ?_, rfl, q _ (I.hok.fresh (Nat.le_refl _))⟩
  exact ⟨Nat.le_trans (cutV_length xs lo hi) hz, _, (r.drop (HT.sIx xs.length 0 lo)).take (HT.sIx xs.length xs.length hi - HT.sIx xs.length 0 lo), IsTup.new _ _⟩

theorem Vals.nil_iff {xs : List V} {us : List Value} (r : Vals xs us) : us = [] ↔ xs = [] := by
  cases r with
  | nil => simp
  | cons _ _ => simp
end
end L2

namespace L2
open PySem PySem.Spec PyProof.Rows

/-! ### places -/
/-- the place that an index of any sign means -/
def ixN (n : Nat) (i : Int) : Option Nat := if 0 ≤ i then (if i < n then some i.toNat else none) else if -(n : Int) ≤ i then some (i + n).toNat else none
def atI {α : Type} (xs : List α) (i : Int) : Option α := (ixN xs.length i).bind fun j => xs[j]?
theorem ixN_seq {n : Nat} {i : Int} {j : Nat} (h : ixN n i = some j) : seqIndex? i n = some j ∧ j < n ∧ -(n : Int) ≤ i ∧ i < n := by
  unfold ixN at h
  by_cases h0 : 0 ≤ i
  · rw [if_pos h0] at h
    by_cases h1 : i < n
    · rw [if_pos h1] at h
      have e : i.toNat = j := Option.some.inj h
      exact ⟨by rw [seqIndex_of h0 h1, e], by omega, by omega, h1⟩
    · rw [if_neg h1] at h; cases h
  · rw [if_neg h0] at h
    by_cases h1 : -(n : Int) ≤ i
    · rw [if_pos h1] at h
      have e : (i + n).toNat = j := Option.some.inj h
      exact ⟨by rw [seqIndex_neg (by omega) h1, e], by omega, h1, by omega⟩
    · rw [if_neg h1] at h; cases h
theorem atI_get {α : Type} {xs : List α} {i : Int} {v : α} (h : atI xs i = some v) : ∃ j, seqIndex? i xs.length = some j ∧ xs[j]? = some v ∧ j < xs.length ∧ -(xs.length : Int) ≤ i ∧ i < xs.length := by
  unfold atI at h
  cases e : ixN xs.length i with
  | none => rw [e] at h; cases h
  | some j =>
    rw [e] at h
    obtain ⟨h1, h2, h3, h4⟩ := ixN_seq e
    exact ⟨j, h1, h, h2, h3, h4⟩
theorem atI_nat {α : Type} {xs : List α} {j : Nat} {v : α} (h : xs[j]? = some v) : atI xs (j : Int) = some v := by
  have hj : j < xs.length := (List.getElem?_eq_some_iff.mp h).1
  have e : ixN xs.length (j : Int) = some j := by
    unfold ixN
    rw [if_pos (by omega), if_pos (by omega)]; simp
  unfold atI; rw [e]; exact h
theorem atI_last {α : Type} (xs : List α) (v : α) : atI (xs ++ [v]) (-1) = some v := by
  have hl : (xs ++ [v]).length = xs.length + 1 := by simp
  have e : ixN (xs ++ [v]).length (-1) = some xs.length := by
    unfold ixN
    rw [hl, if_neg (by decide), if_pos (by omega)]
    congr 1
    omega
  unfold atI
  rw [e]
  show (xs ++ [v])[xs.length]? = some v
  simp

/-! ### what may be subscripted -/
/-- what stands as an index of a plain subscript -/
def PlainIx (b : Expr) : Prop := ∀ o i, subscripted b false o i = operate [o, i] (getItem o i)
/-- a subscript by values -/
def IxR (X : Cx) (r : R2) : Prop :=
  ∀ (value slice : Expr) (pins : List (Addr × Obj)) (s : Shared) (σ : St) (H : Hp) (x y : V) (v u : Value) (Q : VK), Inv X pins σ H s → RelV x v → RelV y u → r x y H Q →
    subscripted slice false v u = operate [v, u] (getItem v u) → wpAny (model X.prog X.w) X.A (subscriptTail value slice v u) (EP X pins σ Q) X.xe s
/-- a call of a builtin's method by values: the receiver, the arguments -/
def MtR (X : Cx) (id : String) (r : V → List V → Hp → VK → Prop) : Prop :=
  ∀ (pins : List (Addr × Obj)) (s : Shared) (σ : St) (H : Hp) (x : V) (xs : List V) (v : Value) (us : List Value) (Q : VK), Inv X pins σ H s → RelV x v → Vals xs us → r x xs H Q →
    wpAny (model X.prog X.w) X.A (call (.builtin id) (v :: us)) (EP X pins σ Q) X.xe s
section
variable {X : Cx} {a b : Expr} {ta tb : TE} {pos : Pos}
theorem IxR.or {r r' : R2} (h : IxR X r) (h' : IxR X r') : IxR X (fun x y H Q => r x y H Q ∨ r' x y H Q) := by
  intro value slice pins s σ H x y v u Q I rx ry q hs
  rcases q with q | q
  · exact h value slice pins s σ H x y v u Q I rx ry q hs
  · exact h' value slice pins s σ H x y v u Q I rx ry q hs
theorem MtR.or {id : String} {r r' : V → List V → Hp → VK → Prop} (h : MtR X id r) (h' : MtR X id r') : MtR X id (fun x xs H Q => r x xs H Q ∨ r' x xs H Q) := by
  intro pins s σ H x xs v us Q I rx rs q
  rcases q with q | q
  · exact h pins s σ H x xs v us Q I rx rs q
  · exact h' pins s σ H x xs v us Q I rx rs q
/-- a[b] -/
theorem pe_ix {r : R2} (hr : IxR X r) (ha : PE X a ta) (hb : PE X b tb) (hs : PlainIx b) : PE X (.Subscript a b pos) (tOp r ta tb) := by
  intro pins s σ H Q I h
  exact Subscript_ (binT ha hb I h fun v u s2 x y H2 I2 rx ry q => hr a b pins s2 σ H2 x y v u Q I2 rx ry q (hs _ _))

def rIxL (K : PySem.W.Frag) : R2 := fun x y H Q => ∃ p xs i v, x = .ref p ∧ y = .int i ∧ SqL K H p xs ∧ atI xs i = some v ∧ Q v H
def rIxT (K : PySem.W.Frag) : R2 := fun x y H Q => ∃ p xs i v, x = .ref p ∧ y = .int i ∧ SqT K H p xs ∧ atI xs i = some v ∧ Q v H
theorem ix_list : IxR X (rIxL X.K) := by
  intro value slice pins s σ H x y v u Q I rx ry h hs
  obtain ⟨p, xs, i, z, rfl, rfl, hq, he, q⟩ := h
  cases rx
  obtain ⟨t, rfl⟩ := ry
  obtain ⟨its, r, pl, hz⟩ := I.list hq
  obtain ⟨j, h1, h2, h3, h4, h5⟩ := atI_get he
  obtain ⟨w, ew, rw'⟩ := r.get h2
  have hl := r.length
  have hn := line63
  have fin : EP X pins σ Q w s := ⟨z, H, I, rw', q⟩
  by_cases h0 : 0 ≤ i
  · have hj : i.toNat = j := by
      rw [seqIndex_of h0 h5] at h1
      exact Option.some.inj h1
    exact item_listR pl.isList h0 (by omega) (by rw [hj]; simpa using ew) fin hs
  · have hj : (i + (its.toArray.size : Int)).toNat = j := by
      rw [seqIndex_neg (by omega) h4] at h1
      rw [List.size_toArray, ← hl]
      exact Option.some.inj h1
    exact subscriptTail_builtinR (x := w) pl.isList.typeIs slot_list_getitem.lookup
      (wpAny_getItem_list_neg (Q := fun r s' => r = w ∧ EP X pins σ Q r s') pl.isList (by omega) (by rw [List.size_toArray] <;> omega) (by omega) (by rw [hj]; simpa using ew) ⟨rfl, fin⟩) hs
theorem ix_tup : IxR X (rIxT X.K) := by
  intro value slice pins s σ H x y v u Q I rx ry h hs
  obtain ⟨p, xs, i, z, rfl, rfl, hq, he, q⟩ := h
  cases rx
  obtain ⟨t, rfl⟩ := ry
  obtain ⟨its, r, pl, hz⟩ := I.tuple hq
  obtain ⟨j, h1, h2, h3, h4, h5⟩ := atI_get he
  obtain ⟨w, ew, rw'⟩ := r.get h2
  have hl := r.length
  have hn := line63
  have fin : EP X pins σ Q w s := ⟨z, H, I, rw', q⟩
  exact subscriptTail_builtinR (x := w) pl.typeIs slot_tuple_getitem.lookup
    (getItem_tuple (j := j) (Q := fun r s' => r = w ∧ EP X pins σ Q r s') pl (by omega) (by omega) (by rw [List.size_toArray, ← hl]; exact h1) (by simpa using ew) ⟨rfl, fin⟩) hs
/-! ### xs[i] = v, any sign -/
/-- the list's object behind a store -/
theorem mapSeq_set (its : List Value) (n j : Nat) (u : Value) : Obj.mapSeq (·.setIfInBounds j u) { cls := .type "list", data := .seq its.toArray n } = { cls := .type "list", data := .seq (its.set j u).toArray n } := by
  simp [Obj.mapSeq]
theorem Inv.lst {pins : List (Addr × Obj)} {σ : St} {H : Hp} {s : Shared} {p : Addr} {xs : List V} (I : Inv X pins σ H s) (h : H p = some (.lst xs)) :
    ∃ (its : List Value) (n : Nat), Vals xs its ∧ s.heap.get? p = some { cls := .type "list", data := .seq its.toArray n } ∧ xs.length ≤ sizeLine := by
  obtain ⟨z, its, n, r, e⟩ := I.hok p _ h
  exact ⟨its, n, r, e, z⟩
/-- the list at p is written by an update of its object -/
theorem Inv.lstUpd {pins : List (Addr × Obj)} {σ : St} {H : Hp} {s : Shared} {p : Addr} {xs ys : List V} {its its' : List Value} {n n' : Nat} {f : Obj → Obj} (I : Inv X pins σ H s) (h : H p = some (.lst xs))
    (ho : s.heap.get? p = some { cls := .type "list", data := .seq its.toArray n }) (hf : f { cls := .type "list", data := .seq its.toArray n } = { cls := .type "list", data := .seq its'.toArray n' }) (r : Vals ys its') (hz : ys.length ≤ sizeLine) (t : Nat) :
    Inv X pins σ (upd H p (.lst ys)) { s with heap := s.heap.update p f, toks := t } := by
  have e : (s.heap.update p f).get? p = some { cls := .type "list", data := .seq its'.toArray n' } := by
    rw [Heap.get?_update_self f ho (by rw [hf] <;> rfl), hf]
  refine I.write (x := p) (e := p) (by rw [h]; trivial) (.inl rfl) (fun b u hb q => (Heap.get?_update_other _ _ (Ne.symm hb)).trans q) ⟨_, e⟩ ?_
  exact ⟨hz, its', n', r, e⟩
def rSetL : V → V → V → Hp → (Hp → Prop) → Prop := fun o i v H Q => ∃ p xs k j, o = .ref p ∧ i = .int k ∧ H p = some (.lst xs) ∧ ixN xs.length k = some j ∧ Q (upd H p (.lst (xs.set j v)))
theorem set_list : PSet X rSetL := by
  intro pins s σ H o i v ov iv u Q I ro ri rv h
  obtain ⟨p, xs, k, j, rfl, rfl, hp, hj, q⟩ := h
  cases ro
  obtain ⟨t, rfl⟩ := ri
  obtain ⟨its, n, r, ho, hz⟩ := I.lst hp
  obtain ⟨h1, h2, h3, h4⟩ := ixN_seq hj
  have hl := r.length
  have hn := line63
  have I' : Inv X pins σ (upd H p (.lst (xs.set j v))) { s with heap := s.heap.update p (Obj.mapSeq (·.setIfInBounds j u)) } :=
    I.lstUpd hp ho (mapSeq_set its n j u) (r.set rv j) (by rw [List.length_set]; exact hz) s.toks
  by_cases h0 : 0 ≤ k
  · have hk : k.toNat = j := by
      rw [seqIndex_of h0 h4] at h1
      exact Option.some.inj h1
    exact PySem.W.ki_setAt ho h0 (by omega) (by rw [List.size_toArray, ← hl]; exact h4) (by rw [hk]; exact ⟨_, I', q⟩)
  · have hk : (k + (its.toArray.size : Int)).toNat = j := by
      rw [seqIndex_neg (by omega) h3] at h1
      rw [List.size_toArray, ← hl]
      exact Option.some.inj h1
    exact PySem.W.ki_setBack ho (by omega) (by rw [List.size_toArray, ← hl]; exact h3) (by omega) (by rw [hk]; exact ⟨_, I', q⟩)

/-! ### slices -/
theorem slice_bounds (lo hi : Option Int) (n : Nat) : (sliceBounds lo hi none n).1 = ((HT.sIx n 0 lo : Nat) : Int) ∧ (sliceBounds lo hi none n).2.1 = ((HT.sIx n n hi : Nat) : Int) ∧ (sliceBounds lo hi none n).2.2 = 1 := by
  refine ⟨?_, ?_, rfl⟩
  · cases lo with
    | none => simp [sliceBounds, HT.sIx]
    | some i =>
      simp only [sliceBounds, HT.sIx, Option.getD_none, show (1 : Int) > 0 by decide, if_true]
      by_cases h : i < 0
      · simp only [h, if_true] <;> omega
      · simp only [h, if_false] <;> omega
  · cases hi with
    | none => simp [sliceBounds, HT.sIx]
    | some i =>
      simp only [sliceBounds, HT.sIx, Option.getD_none, show (1 : Int) > 0 by decide, if_true]
      by_cases h : i < 0
      · simp only [h, if_true] <;> omega
      · simp only [h, if_false] <;> omega
theorem slicePick_cut (its : List Value) (lo hi : Option Int) : slicePick its.toArray lo hi none = ((its.drop (HT.sIx its.length 0 lo)).take (HT.sIx its.length its.length hi - HT.sIx its.length 0 lo)).toArray := by
  obtain ⟨h1, h2, h3⟩ := slice_bounds lo hi its.toArray.size
  unfold slicePick
  rw [h1, h2, h3]
  simp only [sliceRange_one, pick_run, List.size_toArray] <;> rfl
/-- xs[lo:hi] of a list: a new list -/
def rSlL (K : PySem.W.Frag) : V → Option Int → Option Int → Hp → VK → Prop := fun x lo hi H Q => ∃ a xs, x = .ref a ∧ SqL K H a xs ∧ ∀ p, H p = none → Q (.ref p) (upd H p (.lst (cutV xs lo hi)))
theorem sl_list : SlR X (rSlL X.K) := by
  intro pins s σ H x v vl vu lo hi sl Q I rx hs pl pu h
  obtain ⟨a, xs, rfl, hx, q⟩ := h
  cases rx
  obtain ⟨its, r, ht, hz⟩ := I.list hx
  have hlen := r.length
  refine ⟨"list", _, slot_list_getitem.lookup, ht.isList.typeIs, ?_⟩
  refine wpAny_getItem_list_slice ht.isList hs pl pu .none (by simp) ?_ (by rw [List.size_toArray] <;> omega)
  rw [slicePick_cut, ← hlen]
  refine ⟨.ref s.heap.objs.size, _, I.laid (t' := s.toks) (o := .lst (cutV xs lo hi)) (fun b ob q => Heap.get?_push_of_some _ q) (Nat.le_refl _) ?_, rfl, q _ (I.hok.fresh (Nat.le_refl _))⟩
  exact ⟨Nat.le_trans (cutV_length xs lo hi) hz, _, 0, (r.drop (HT.sIx xs.length 0 lo)).take (HT.sIx xs.length xs.length hi - HT.sIx xs.length 0 lo), Heap.get?_push_size _ rfl⟩

/-! ### in, not in: flat items -/
def flatV : V → Bool
  | .non => true
  | .bl _ => true
  | .int _ => true
  | .str _ => true
  | _ => false
/-- == of flat values -/
def eqV : V → V → Bool
  | .non, .non => true
  | .bl a, .bl b => a == b
  | .bl a, .int b => (if a then 1 else 0) == b
  | .int a, .bl b => a == (if b then 1 else 0)
  | .int a, .int b => a == b
  | .str a, .str b => a == b
  | _, _ => false
theorem eqAt_V {A : Around} {s : Shared} {y x : V} {u v : Value} (ry : RelV y u) (rx : RelV x v) (fy : flatV y = true) (fx : flatV x = true) : SeqAt.EqAt A s u v (eqV y x) := by
  cases y with
  | non =>
    cases ry
    cases x with
    | non => cases rx; exact SeqAt.EqAt.same _
    | bl b => cases rx; exact SeqAt.EqAt.none_bool b
    | int b => obtain ⟨t, rfl⟩ := rx; exact SeqAt.EqAt.none_int b t
    | str b => obtain ⟨t, rfl⟩ := rx; exact SeqAt.EqAt.none_str b t
    | _ => exact absurd (show false = true from fx) Bool.false_ne_true
  | bl a =>
    cases ry
    cases x with
    | non => cases rx; exact SeqAt.EqAt.bool_none a
    | bl b => cases rx; exact SeqAt.EqAt.bool_bool a b
    | int b => obtain ⟨t, rfl⟩ := rx; exact SeqAt.EqAt.bool_int a b t
    | str b => obtain ⟨t, rfl⟩ := rx; exact SeqAt.EqAt.bool_str a b t
    | _ => exact absurd (show false = true from fx) Bool.false_ne_true
  | int a =>
    obtain ⟨t', rfl⟩ := ry
    cases x with
    | non => cases rx; exact SeqAt.EqAt.int_none a t'
    | bl b => cases rx; exact SeqAt.EqAt.int_bool a t' b
    | int b => obtain ⟨t, rfl⟩ := rx; exact SeqAt.EqAt.int_int a t' b t
    | str b => obtain ⟨t, rfl⟩ := rx; exact SeqAt.EqAt.int_str a t' b t
    | _ => exact absurd (show false = true from fx) Bool.false_ne_true
  | str a =>
    obtain ⟨t', rfl⟩ := ry
    cases x with
    | non => cases rx; exact SeqAt.EqAt.str_none a t'
    | bl b => cases rx; exact SeqAt.EqAt.str_bool a t' b
    | int b => obtain ⟨t, rfl⟩ := rx; exact SeqAt.EqAt.str_int a t' b t
    | str b => obtain ⟨t, rfl⟩ := rx; exact SeqAt.EqAt.str_str a t' b t
    | _ => exact absurd (show false = true from fx) Bool.false_ne_true
  | _ => exact absurd (show false = true from fy) Bool.false_ne_true
/-- the items' answers, read off the values (a value's own answer does not lean on its token) -/
def eqU (x : V) (u : Value) : Bool := match u with
  | .none => eqV .non x
  | .bool b => eqV (.bl b) x
  | .int i _ => eqV (.int i) x
  | .str z _ => eqV (.str z) x
  | _ => false
theorem eqU_of {x y : V} {u : Value} (r : RelV y u) (f : flatV y = true) : eqU x u = eqV y x := by
  cases y with
  | non => cases r; rfl
  | bl b => cases r; rfl
  | int i => obtain ⟨t, rfl⟩ := r; rfl
  | str z => obtain ⟨t, rfl⟩ := r; rfl
  | _ => exact absurd (show false = true from f) Bool.false_ne_true
theorem any_eqU {x : V} : ∀ {xs : List V} {us : List Value}, Vals xs us → xs.all flatV = true → us.any (eqU x) = xs.any fun y => eqV y x
  | _, _, .nil, _ => rfl
  | y :: xs, u :: us, .cons r t, f => by
    rw [List.all_cons, Bool.and_eq_true] at f
    rw [List.any_cons, List.any_cons, eqU_of r f.1, any_eqU t f.2]
theorem mem_eqAt {A : Around} {s : Shared} {x : V} {v : Value} (rx : RelV x v) (fx : flatV x = true) : ∀ {xs : List V} {us : List Value}, Vals xs us → xs.all flatV = true → ∀ u ∈ us, SeqAt.EqAt A s u v (eqU x u)
  | _, _, .nil, _ => fun u hu => by cases hu
  | y :: xs, u :: us, .cons r t, f => fun u' hu => by
    rw [List.all_cons, Bool.and_eq_true] at f
    rcases List.mem_cons.mp hu with rfl | hu
    · rw [eqU_of r f.1]; exact eqAt_V r rx f.1 fx
    · exact mem_eqAt rx fx t f.2 u' hu
def inV (x : V) (xs : List V) : Bool := xs.any fun y => eqV y x
/-- x in a list or tuple of flat items -/
def rIn (K : PySem.W.Frag) (neg : Bool) : R2 := fun x y H Q => ∃ p xs, y = .ref p ∧ (SqL K H p xs ∨ SqT K H p xs) ∧ flatV x = true ∧ xs.all flatV = true ∧ Q (.bl (if neg then !inV x xs else inV x xs)) H
theorem op_in_seq : OpR X (compareOp .In) (rIn X.K false) := by
  intro pins s σ H x y v u Q I rx ry h
  obtain ⟨p, xs, rfl, hq, fx, fs, q⟩ := h
  cases ry
  rcases hq with hq | hq
  · obtain ⟨its, r, pl, hz⟩ := I.list hq
    refine SeqAt.in_listAt (eqU x) pl.isList (fun w hw => mem_eqAt rx fx r fs w (by simpa using hw)) ⟨.bl _, H, I, rfl, ?_⟩
    rw [show its.toArray.any (eqU x) = its.any (eqU x) by simp, any_eqU r fs]
    exact q
  · obtain ⟨its, r, pl, hz⟩ := I.tuple hq
    refine SeqAt.in_tupleAt (eqU x) pl (fun w hw => mem_eqAt rx fx r fs w (by simpa using hw)) ⟨.bl _, H, I, rfl, ?_⟩
    rw [show its.toArray.any (eqU x) = its.any (eqU x) by simp, any_eqU r fs]
    exact q
/-! ### len, list(x), tuple(x) of any list or tuple that is read -/
theorem call_len_seq : CallR X (.builtin "len") (fun xs H Q => ∃ p ys, xs = [.ref p] ∧ (SqL X.K H p ys ∨ SqT X.K H p ys) ∧ Q (.int ys.length) H) := by
  intro pins s σ H xs us Q I r h
  obtain ⟨p, ys, rfl, hq, q⟩ := h
  obtain ⟨u, rfl, rx⟩ := vals1 r
  cases rx
  have hn := line63
  rcases hq with hq | hq
  · obtain ⟨its, r', pl, hz⟩ := I.list hq
    have hlen := r'.length
    exact Calls.call_len_list pl.isList (by simp only [List.size_toArray] <;> omega) ⟨.int ys.length, H, I.tok _, ⟨s.toks + 1, by rw [List.size_toArray, hlen]⟩, q⟩
  · obtain ⟨its, r', pl, hz⟩ := I.tuple hq
    have hlen := r'.length
    exact len_tuple pl (by simp only [List.size_toArray] <;> omega) ⟨.int ys.length, H, I.tok _, ⟨s.toks + 1, by rw [List.size_toArray, hlen]⟩, q⟩
theorem CallR.or {f : Value} {r r' : List V → Hp → VK → Prop} (h : CallR X f r) (h' : CallR X f r') : CallR X f (fun xs H Q => r xs H Q ∨ r' xs H Q) := by
  intro pins s σ H xs us Q I rs q
  rcases q with q | q
  · exact h pins s σ H xs us Q I rs q
  · exact h' pins s σ H xs us Q I rs q
theorem call_list_of : CallR X (.type "list") (fun xs H Q => ∃ p ys, xs = [.ref p] ∧ (SqL X.K H p ys ∨ SqT X.K H p ys) ∧ ∀ l, H l = none → Q (.ref l) (upd H l (.lst ys))) := by
  intro pins s σ H xs us Q I r h
  obtain ⟨p, ys, rfl, hq, q⟩ := h
  obtain ⟨u, rfl, rx⟩ := vals1 r
  cases rx
  have fin : ∀ (its : List Value), Vals ys its → ys.length ≤ sizeLine → ∀ (h' : Heap) (c' : Nat), (∀ b o', s.heap.get? b = some o' → h'.get? b = some o') →
      h'.get? s.heap.objs.size = some { cls := .type "list", dict := none, data := .seq its.toArray c', slots := #[] } → EP X pins σ Q (.ref s.heap.objs.size) { s with heap := h' } := fun its r' hz h' c' kp e =>
    ⟨.ref s.heap.objs.size, _, I.laid (t' := s.toks) kp (Nat.le_refl _) (show ObjOk X.prog X.w _ h' _ (.lst ys) from ⟨hz, its, c', r', e⟩), rfl, q _ (I.hok.fresh (Nat.le_refl _))⟩
  rcases hq with hq | hq
  · obtain ⟨its, r', pl, hz⟩ := I.list hq
    have hlen := r'.length
    obtain ⟨o, ho, hc, n, hd⟩ := pl.isList
    exact call_list_seq p (.inl rfl) ho hc hd (fun h' c' kp e => fin its r' hz h' c' kp e) (by simp only [List.size_toArray] <;> omega)
  · obtain ⟨its, r', pl, hz⟩ := I.tuple hq
    have hlen := r'.length
    obtain ⟨o, ho, hc, n, hd⟩ := pl
    exact call_list_seq p (.inr rfl) ho hc hd (fun h' c' kp e => fin its r' hz h' c' kp e) (by simp only [List.size_toArray] <;> omega)
theorem call_tuple_of : CallR X (.type "tuple") (fun xs H Q => ∃ p ys, xs = [.ref p] ∧ ((SqL X.K H p ys ∧ ∀ l, H l = none → Q (.ref l) (upd H l (.tup ys))) ∨ (SqT X.K H p ys ∧ Q (.ref p) H))) := by
  intro pins s σ H xs us Q I r h
  obtain ⟨p, ys, rfl, h⟩ := h
  obtain ⟨u, rfl, rx⟩ := vals1 r
  cases rx
  rcases h with ⟨hq, q⟩ | ⟨hq, q⟩
  · obtain ⟨its, r', pl, hz⟩ := I.list hq
    have hlen := r'.length
    refine call_tuple_list pl.isList (fun h' kp => ?_) (by simp only [List.size_toArray] <;> omega)
    have I1 : Inv X pins σ H { s with heap := h' } := I.kept (t' := s.toks) kp
    have I2 : Inv X pins σ (upd H h'.objs.size (.tup ys)) { s with heap := h'.push { cls := .type "tuple", data := .seq its.toArray } } :=
      I1.laid (t' := s.toks) (fun b o e => Heap.get?_push_of_some _ e) (Nat.le_refl _) (show ObjOk X.prog X.w _ _ _ (.tup ys) from ⟨hz, its, r', IsTup.new _ _⟩)
    exact ⟨.ref h'.objs.size, _, I2, rfl, q _ (I1.hok.fresh (Nat.le_refl _))⟩
  · obtain ⟨its, r', pl, hz⟩ := I.tuple hq
    exact call_tuple_same pl ⟨.ref p, H, I, rfl, q⟩

/-! ### the call of a builtin's method: o.m(..) -/
/-- the value is of that builtin type -/
def tyV (K : PySem.W.Frag) (T : String) (x : V) (H : Hp) : Prop := match x with
  | .str _ => T = "str"
  | .int _ => T = "int"
  | .ref p => (T = "list" ∧ ∃ xs, SqL K H p xs) ∨ (T = "tuple" ∧ ∃ o, K.lookup p = some o ∧ o.cls = .type "tuple" ∧ o.dict = none) ∨
      (T = "dict" ∧ ((∃ kvs, H p = some (.dK kvs)) ∨ ∃ kvs, H p = some (.dT kvs))) ∨ (T = "set" ∧ ∃ S n, H p = some (.set S n))
  | _ => False
theorem tyV_is {pins : List (Addr × Obj)} {σ : St} {H : Hp} {s : Shared} {T : String} {x : V} {v : Value} (I : Inv X pins σ H s) (r : RelV x v) (ty : tyV X.K T x H) :
    s.TypeIs v T ∧ ∀ a, v = .ref a → ∃ ob, s.heap.get? a = some ob ∧ ob.dict = none := by
  cases x with
  | str z =>
    obtain ⟨t, rfl⟩ := r
    cases (show T = "str" from ty)
    exact ⟨typeIs_str s z t, fun _ e => nomatch e⟩
  | int i =>
    obtain ⟨t, rfl⟩ := r
    cases (show T = "int" from ty)
    exact ⟨typeIs_int s i t, fun _ e => nomatch e⟩
  | ref p =>
    cases r
    rcases ty with ⟨rfl, xs, hq⟩ | ⟨rfl, o, hk, hc, hd⟩ | ⟨rfl, hk⟩ | ⟨rfl, S, n, hk⟩
    · obtain ⟨its, _, pl, _⟩ := I.list hq
      refine ⟨pl.isList.typeIs, fun a e => ?_⟩
      cases e
      obtain ⟨o, n, e, c, hd, _⟩ := pl
      exact ⟨o, e, hd⟩
    · refine ⟨⟨o, I.kIn p o hk, hc⟩, fun a e => ?_⟩
      cases e
      exact ⟨o, I.kIn _ o hk, hd⟩
    · have z : ∃ o, s.heap.get? p = some o ∧ o.ExactDict := by
        rcases hk with ⟨kvs, hk⟩ | ⟨kvs, hk⟩
        · obtain ⟨_, _, _, _, o, _, _, e, ex, _⟩ := I.hok p _ hk
          exact ⟨o, e, ex⟩
        · obtain ⟨_, _, _, _, o, _, _, e, ex, _⟩ := I.hok p _ hk
          exact ⟨o, e, ex⟩
      obtain ⟨o, e, ex⟩ := z
      refine ⟨⟨o, e, ex.1⟩, fun a e2 => ?_⟩
      cases e2
      exact ⟨o, e, ex.2.1⟩
    · obtain ⟨o, _, _, _, e, ex, _⟩ := I.hok p _ hk
      refine ⟨⟨o, e, ex.1⟩, fun a e2 => ?_⟩
      cases e2
      exact ⟨o, e, ex.2.1⟩
  | _ => exact False.elim ty
def tBM0 (K : PySem.W.Frag) (T : String) (r : V → List V → Hp → VK → Prop) (to : TE) : TE := fun σ H Q => to σ H fun x H1 => tyV K T x H1 ∧ r x [] H1 Q
def tBM (K : PySem.W.Frag) (T : String) (r : V → List V → Hp → VK → Prop) (to : TE) (t : TA) : TE := fun σ H Q => to σ H fun x H1 => tyV K T x H1 ∧ t σ H1 fun xs H2 => r x xs H2 Q
variable {o e : Expr} {es : List Expr} {to : TE} {t : TA} {name : Str} {apos cpos : Pos} {T id : String} {r : V → List V → Hp → VK → Prop}
theorem pe_bm0 (pa : PlainAttrs T) (slot : Slot T name id) (hty : typeOf (.builtin id) = pure (.type "method_descriptor")) (hm : MtR X id r) (ho : PE X o to)
    (hbase : attributeBase o name X.env (eval o X.env) = eval o X.env := by rfl) (hline : (apos.endLine == cpos.line) = true := by rfl) : PE X (.Call (.Attribute o name apos) [] [] cpos) (tBM0 X.K T r to) := by
  intro pins s σ H Q I h
  refine wpAny_Call_method0_late hbase hline (thn (ho pins s σ H _ I h) fun v s1 ⟨x, H1, I1, r1, ty, q1⟩ => ?_)
  obtain ⟨h1, h2⟩ := tyV_is I1 r1 ty
  exact ⟨T, id, pa, slot, hty, h1, h2, Calls.callWith_builtin rfl (PySem.evalArgs_none (hm pins s1 σ H1 x [] v [] Q I1 r1 .nil q1))⟩
theorem pe_bm (pa : PlainAttrs T) (slot : Slot T name id) (hty : typeOf (.builtin id) = pure (.type "method_descriptor")) (hm : MtR X id r) (ho : PE X o to) (ha : PA X (e :: es) t)
    (hbase : attributeBase o name X.env (eval o X.env) = eval o X.env := by rfl)
    (hfew : ((backTo cpos (starEach (e :: es) X.env)).all (fun x => !x.1) && (backToKw cpos (keywordEach [] X.env)).all (fun x => x.1.isSome)
      && decide ((e :: es).length + ([] : List Keyword).length + (if ([] : List Keyword).isEmpty then 0 else 1) < 30)) = true := by rfl)
    (hline : (apos.endLine == cpos.line) = true := by rfl) (hs : starEach (e :: es) X.env = (false, eval e X.env) :: starEach es X.env := by rfl) (hplain : (backTo cpos (starEach es X.env)).any (·.1) = false := by rfl) :
    PE X (.Call (.Attribute o name apos) (e :: es) [] cpos) (tBM X.K T r to t) := by
  intro pins s σ H Q I h
  refine wpAny_Call_method_late hbase hfew hline rfl (thn (ho pins s σ H _ I h) fun v s1 ⟨x, H1, I1, r1, ty, q1⟩ => ?_)
  obtain ⟨h1, h2⟩ := tyV_is I1 r1 ty
  refine ⟨T, id, pa, slot, hty, h1, h2, ?_⟩
  have hA := ha cpos pins s1 σ H1 _ I1 q1
  rw [hs] at hA ⊢
  refine Calls.callWith_builtin (by show (false || (backTo cpos (starEach es X.env)).any (·.1)) = false; rw [hplain] <;> rfl) (Calls.evalArgs_plain ?_)
  exact thn hA fun us s2 ⟨vs, H2, I2, r2, q2⟩ => hm pins s2 σ H2 x vs v us Q I2 r1 r2 q2
end
end L2

namespace L2
open PySem PySem.Spec PyProof.Rows

def MtM (X : Cx) (id : String) (r : V → List V → Hp → VK → Prop) : Prop :=
  ∀ (pins : List (Addr × Obj)) (s : Shared) (σ : St) (H : Hp) (x : V) (xs : List V) (v : Value) (us : List Value) (Q : VK), Inv X pins σ H s → RelV x v → Vals xs us → r x xs H Q →
    wpAny (model X.prog X.w) X.A (call (.builtin id) (v :: us)) (EP X pins σ Q) X.xe s

/-! ### lists of values -/
theorem Vals.one : ∀ {x : V} {us : List Value}, Vals [x] us → ∃ u, us = [u] ∧ RelV x u
  | _, _, .cons r .nil => ⟨_, rfl, r⟩
theorem Vals.two : ∀ {x y : V} {us : List Value}, Vals [x, y] us → ∃ u v, us = [u, v] ∧ RelV x u ∧ RelV y v
  | _, _, _, .cons r (.cons q .nil) => ⟨_, _, rfl, r, q⟩
theorem Vals.zero : ∀ {us : List Value}, Vals [] us → us = []
  | _, .nil => rfl
theorem Vals.dropLast {xs : List V} {us : List Value} (h : Vals xs us) : Vals xs.dropLast us.dropLast := by
  induction h with
  | nil => exact .nil
  | cons r t ih =>
    cases t with
    | nil => exact .nil
    | cons q t' => exact .cons r ih
theorem Vals.eraseIdx : ∀ {xs : List V} {us : List Value} (i : Nat), Vals xs us → Vals (xs.eraseIdx i) (us.eraseIdx i)
  | _, _, _, .nil => .nil
  | _, _, 0, .cons _ t => t
  | _, _, i + 1, .cons r t => .cons r (Vals.eraseIdx i t)
theorem Vals.reverse {xs : List V} {us : List Value} (h : Vals xs us) : Vals xs.reverse us.reverse := by
  induction h with
  | nil => exact .nil
  | cons r t ih => rw [List.reverse_cons, List.reverse_cons]; exact Vals.append ih (.cons r .nil)
theorem Vals.rep {xs : List V} {us : List Value} (h : Vals xs us) : ∀ k : Nat, Vals (List.replicate k xs).flatten (List.replicate k us).flatten
  | 0 => .nil
  | k + 1 => by
    rw [List.replicate_succ, List.replicate_succ, List.flatten_cons, List.flatten_cons]
    exact Vals.append h (Vals.rep h k)
theorem erase_last {α : Type} (l : List α) : l.eraseIdx (l.length - 1) = l.dropLast := by
  induction l with
  | nil => rfl
  | cons a r ih =>
    cases r with
    | nil => rfl
    | cons b r =>
      have e : (a :: b :: r).length - 1 = ((b :: r).length - 1) + 1 := by
        have h1 : (a :: b :: r).length = r.length + 2 := rfl
        have h2 : (b :: r).length = r.length + 1 := rfl
        omega
      rw [e, List.eraseIdx_cons_succ, ih]
      all_goals rfl
theorem foldl_rep (its : List Value) : ∀ (k : Nat) (acc : List Value),
    List.foldl (fun x1 x2 => x1 ++ x2) acc.toArray (List.replicate k its.toArray) = (acc ++ (List.replicate k its).flatten).toArray
  | 0, acc => by simp
  | k + 1, acc => by
    have e : acc.toArray ++ its.toArray = (acc ++ its).toArray := by simp
    have e2 : (acc ++ its) ++ (List.replicate k its).flatten = acc ++ (List.replicate (k + 1) its).flatten := by
      rw [List.replicate_succ, List.flatten_cons, List.append_assoc]
    rw [← e2, ← foldl_rep its k (acc ++ its), ← e, List.replicate_succ, List.foldl_cons]

section
variable {X : Cx} {pins : List (Addr × Obj)} {σ : St} {H : Hp} {s : Shared} {l b : Addr} {xs ys zs : List V}

/-! ### the two steps: a tracked list is rewritten, a new list is laid -/
theorem Inv.lset {its its' : List Value} {n : Nat} {f : Array Value → Array Value} {t' : Nat} (I : Inv X pins σ H s) (hH : H l = some (.lst xs))
    (e : s.heap.get? l = some { cls := .type "list", data := .seq its.toArray n }) (hf : f its.toArray = its'.toArray) (hv : Vals ys its') (hz : ys.length ≤ sizeLine) :
    Inv X pins σ (upd H l (.lst ys)) { s with heap := s.heap.update l (Obj.mapSeq f), toks := t' } := by
  have q := PySem.IsL.update e f
  rw [hf] at q
  refine I.write (x := l) (e := l) (by rw [hH]; exact trivial) (.inl rfl) (fun b' u hb hu => (Heap.get?_update_other s.heap (Obj.mapSeq f) (Ne.symm hb)).trans hu) ⟨_, q⟩ ?_
  exact ⟨hz, its', _, hv, q⟩
theorem Inv.lnew {its : List Value} {t' : Nat} (I : Inv X pins σ H s) (hv : Vals ys its) (hz : ys.length ≤ sizeLine) :
    Inv X pins σ (upd H s.heap.objs.size (.lst ys)) { s with heap := s.heap.push { cls := .type "list", data := .seq its.toArray }, toks := t' } :=
  I.laid (fun _ _ q => Heap.get?_push_of_some _ q) (Nat.le_refl _) ⟨hz, its, 0, hv, Heap.get?_push_size _ rfl⟩
theorem Inv.fresh (I : Inv X pins σ H s) : H s.heap.objs.size = none := I.hok.fresh (Nat.le_refl _)
theorem Inv.lstM (I : Inv X pins σ H s) (hH : H l = some (.lst xs)) : xs.length ≤ sizeLine ∧ ∃ (its : List Value) (n : Nat), Vals xs its ∧ xs.length = its.length ∧ s.heap.get? l = some { cls := .type "list", data := .seq its.toArray n } := by
  obtain ⟨z, its, n, r, e⟩ := I.hok l _ hH
  exact ⟨z, its, n, r, r.length, e⟩

theorem notLongL {n : Nat} (h : n ≤ sizeLine) : Builtin.List.listTooLong n = false := by
  unfold Builtin.List.listTooLong
  exact decide_eq_false (by omega)
end

section
variable {X : Cx}

/-! ### methods -/
def rAppend : V → List V → Hp → VK → Prop := fun x vs H Q => ∃ l xs y, x = .ref l ∧ vs = [y] ∧ H l = some (.lst xs) ∧ xs.length < sizeLine ∧ Q .non (upd H l (.lst (xs ++ [y])))
theorem mt_append : MtM X "list.append" rAppend := by
  intro pins s σ H x vs v us Q I rx rv h
  obtain ⟨l, xs, y, rfl, rfl, hH, hz, q⟩ := h
  cases rx
  obtain ⟨u, rfl, ru⟩ := rv.one
  obtain ⟨z, its, n, r, hl, e⟩ := I.lstM hH
  refine call_meets F.slot_list_append ⟨_, e, rfl⟩ F.entry_list_append (F.args_list_append_2 _ _) (PySem.list_append l its.toArray n u (by rw [List.size_toArray]; omega)) ⟨e, ?_⟩
  refine ⟨.non, _, I.lset (its' := its ++ [u]) hH e (by simp) (r.append (.cons ru .nil)) ?_, rfl, q⟩
  rw [List.length_append, List.length_singleton]
  omega

def rExtend : V → List V → Hp → VK → Prop := fun x vs H Q => ∃ l b xs zs, x = .ref l ∧ vs = [.ref b] ∧ H l = some (.lst xs) ∧ H b = some (.lst zs) ∧ xs.length + zs.length ≤ sizeLine ∧ Q .non (upd H l (.lst (xs ++ zs)))
theorem mt_extend : MtM X "list.extend" rExtend := by
  intro pins s σ H x vs v us Q I rx rv h
  obtain ⟨l, b, xs, zs, rfl, rfl, hH, hB, hz, q⟩ := h
  cases rx
  obtain ⟨u, rfl, ru⟩ := rv.one
  cases ru
  obtain ⟨z, its, n, r, hl, e⟩ := I.lstM hH
  obtain ⟨z2, its2, n2, r2, hl2, e2⟩ := I.lstM hB
  have hsz : its.toArray.size + its2.toArray.size ≤ sizeLine := by rw [List.size_toArray, List.size_toArray]; omega
  have hlong : ¬ (!its.toArray.isEmpty && Builtin.List.listTooLong (its.toArray.size + its2.toArray.size)) = true := by
    rw [notLongL hsz, Bool.and_false]
    exact Bool.false_ne_true
  refine call_meets F.slot_list_extend ⟨_, e, rfl⟩ F.entry_list_extend (F.args_list_extend_2 _ _)
    (AutoSeq1.list_extend_list_list_0 l its.toArray n b its2.toArray n2 hlong (by rw [List.size_toArray]; omega) (by omega)) ⟨e, e2, ?_⟩
  refine ⟨.non, _, I.lset (its' := its ++ its2) hH e (by simp) (r.append r2) ?_, rfl, q⟩
  rw [List.length_append]
  omega

def rPop : V → List V → Hp → VK → Prop := fun x vs H Q => ∃ l xs y, x = .ref l ∧ vs = [] ∧ H l = some (.lst xs) ∧ xs[xs.length - 1]? = some y ∧ Q y (upd H l (.lst xs.dropLast))
theorem mt_pop : MtM X "list.pop" rPop := by
  intro pins s σ H x vs v us Q I rx rv h
  obtain ⟨l, xs, y, rfl, rfl, hH, hy, q⟩ := h
  cases rx
  have hus := rv.zero
  subst hus
  obtain ⟨z, its, n, r, hl, e⟩ := I.lstM hH
  obtain ⟨u, hu, ru⟩ := r.get hy
  have hy' : its.toArray[its.toArray.size - 1]? = some u := by
    show its.toArray[its.length - 1]? = some u
    rw [← Array.getElem?_toList, ← hl]
    exact hu
  refine call_meets F.slot_list_pop ⟨_, e, rfl⟩ F.entry_list_pop (F.args_list_pop_1 _) (MeetsSeq.list_pop_last l its.toArray n u hy' (by rw [List.size_toArray]; omega)) ⟨e, ?_⟩
  refine ⟨y, _, I.lset (its' := its.dropLast) hH e ?_ r.dropLast ?_, ru, q⟩
  · show its.toArray.eraseIdxIfInBounds (its.toArray.size - 1) = its.dropLast.toArray
    rw [List.size_toArray, List.eraseIdxIfInBounds_toArray, erase_last]
  · rw [List.length_dropLast]
    omega

/-! ### list + list, list += list, list * int -/
def rCat : R2 := fun x y H Q => ∃ l b xs zs, x = .ref l ∧ y = .ref b ∧ H l = some (.lst xs) ∧ H b = some (.lst zs) ∧ xs.length + zs.length ≤ sizeLine ∧ ∀ p, H p = none → Q (.ref p) (upd H p (.lst (xs ++ zs)))
theorem op_cat : OpR X (binaryOp .Add) rCat := by
  intro pins s σ H x y v u Q I rx ry h
  obtain ⟨l, b, xs, zs, rfl, rfl, hH, hB, hz, q⟩ := h
  cases rx
  cases ry
  obtain ⟨z, its, n, r, hl, e⟩ := I.lstM hH
  obtain ⟨z2, its2, n2, r2, hl2, e2⟩ := I.lstM hB
  refine PySem.P.add_list e e2 ?_ (by rw [List.size_toArray, List.size_toArray]; omega)
  have ea : its.toArray ++ its2.toArray = (its ++ its2).toArray := by simp
  rw [ea]
  exact ⟨.ref _, _, I.lnew (t' := s.toks) (r.append r2) (by rw [List.length_append]; omega), rfl, q _ I.fresh⟩
/-- a list times an int (a negative one is nothing) -/
def rRep : R2 := fun x y H Q => ∃ l k xs, x = .ref l ∧ y = .int k ∧ H l = some (.lst xs) ∧ -(2 ^ 63) ≤ k ∧ k < 2 ^ 63 ∧ xs.length * k.toNat ≤ sizeLine ∧
  ∀ p, H p = none → Q (.ref p) (upd H p (.lst (List.replicate k.toNat xs).flatten))
theorem len_rep {α : Type} (xs : List α) (k : Nat) : (List.replicate k xs).flatten.length = k * xs.length := by
  induction k with
  | zero => simp
  | succ k ih => rw [List.replicate_succ, List.flatten_cons, List.length_append, ih, Nat.succ_mul, Nat.add_comm]
theorem op_rep : OpR X (binaryOp .Mult) rRep := by
  intro pins s σ H x y v u Q I rx ry h
  obtain ⟨l, k, xs, rfl, rfl, hH, h1, h2, hz, q⟩ := h
  cases rx
  obtain ⟨t, rfl⟩ := ry
  obtain ⟨z, its, n, r, hl, e⟩ := I.lstM hH
  have hlen : its.toArray.size * k.toNat ≤ sizeLine := by rw [List.size_toArray, ← hl]; exact hz
  have hcap : ¬ its.toArray.size * k.toNat > (2 ^ 63 - 1) / 8 := by
    have : (sizeLine : Nat) ≤ (2 ^ 63 - 1) / 8 := by decide
    omega
  have hfit : ¬ (!Builtin.List.listFitsIndex k) = true := by
    rw [fitsIndex_both h1 h2]
    exact Bool.false_ne_true
  have hlong : ¬ Builtin.List.listTooLong (its.toArray.size * k.toNat) = true := by
    rw [notLongL hlen]
    exact Bool.false_ne_true
  have hnew : List.foldl (fun x1 x2 => x1 ++ x2) #[] (List.replicate (if its.toArray.isEmpty = true then 0 else k.toNat) its.toArray) = (List.replicate k.toNat its).flatten.toArray := by
    have f0 : ∀ m : Nat, List.foldl (fun x1 x2 => x1 ++ x2) #[] (List.replicate m its.toArray) = (List.replicate m its).flatten.toArray := fun m => by
      have := foldl_rep its m []
      rw [List.nil_append] at this
      exact this
    rw [f0]
    cases its with
    | nil => simp
    | cons a r' => rw [if_neg (by simp)]
  refine wpAny_binaryOp_repeat_ref (T := "list") (U := "int") (by decide) ⟨_, e, rfl⟩ (fun s' => typeIs_int s' k t) noFill_list_mul F.fills_int_mul F.slot_int_rmul repeat_list F.slot_int_index.lookup
    (call_meets F.slot_int_rmul (typeIs_int s k t) F.entry_int_rmul (F.args_int_rmul_2 _ _) (int___rmul___int_list k t l its.toArray n)
      ⟨e, rfl, ⟨_, e, rfl⟩, call_meets F.slot_list_mul ⟨_, e, rfl⟩ F.entry_list_mul (F.args_list_mul_2 _ _) (AutoListH.list___mul___list_int_3 l its.toArray n k t hfit hcap hlong) ⟨e, ?_⟩⟩)
  rw [hnew]
  exact ⟨.ref _, _, I.lnew (t' := s.toks) (r.rep k.toNat) (by rw [len_rep, Nat.mul_comm]; exact hz), rfl, q _ I.fresh⟩

end

section
variable {prog : Program} {w : World} {A : Around} {E : Value → Shared → Prop} {s : Shared}
end

section
variable {X : Cx}
end
end L2

namespace L2
open PySem PySem.Spec PyProof.Rows

theorem Vals.ints : ∀ {ns : List Int} {us : List Value}, Vals (ns.map V.int) us → IntsAre us ns
  | [], us, h => by
    rw [List.map_nil] at h
    cases h
    exact IntsAre.nil
  | n :: ns, us, h => by
    rw [List.map_cons] at h
    cases h with
    | cons r t =>
      obtain ⟨k, rfl⟩ := r
      exact IntsAre.cons n k (Vals.ints t)
theorem vals_of_ints : ∀ {us : List Value} {ns : List Int}, IntsAre us ns → Vals (ns.map V.int) us
  | _, _, .nil => by rw [List.map_nil]; exact Paired.nil
  | _, _, .cons n t h => by rw [List.map_cons]; exact Paired.cons (show RelV (V.int n) (Value.int n t) from ⟨t, rfl⟩) (vals_of_ints h)
theorem Vals.bls : ∀ {bs : List Bool} {us : List Value}, Vals (bs.map V.bl) us → us = bs.map Value.bool
  | [], us, h => by
    rw [List.map_nil] at h
    cases h
    rfl
  | b :: bs, us, h => by
    rw [List.map_cons] at h
    cases h with
    | cons r t =>
      cases r
      rw [Vals.bls t, List.map_cons]
theorem Vals.ref1 {a : Addr} {us : List Value} (r : Vals [V.ref a] us) : us = [Value.ref a] := by
  cases r with
  | cons r t =>
    cases t
    cases r
    rfl
section
variable {prog : Program} {w : World} {A : Around} {E : Value → Shared → Prop} {s : Shared} {l : Addr} {its : List Value} {ns : List Int} {Q : Value → Shared → Prop}
theorem sum_raw (hh : A.handled = none) (hl : s.heap.IsList l its.toArray) (hi : IntsAre its ns)
    (h : ∀ h' tk t', (∀ b o, s.heap.get? b = some o → h'.get? b = some o) → Q (.int ns.sum t') { s with heap := h', toks := tk }) : wpAny (model prog w) A (call (.builtin "sum") [.ref l]) Q E s := by
  obtain ⟨xs, e⟩ := hi.allInts.items
  have hn : numsOf (intItems xs).toList = ns := by rw [← e]; exact hi.numsOf
  rw [nums_intItems] at hn
  rw [e] at hl
  refine PySem.sum_intListG hh hl fun h' tk t' hk => ?_
  have := h h' tk t' hk
  rw [preSum_eq, List.take_of_length_le (by simp), hn]; exact this
end

section
variable {X : Cx}
/-- sum(xs) of a list of ints -/
def rSum (K : PySem.W.Frag) : List V → Hp → VK → Prop := fun vs H Q => ∃ (a : Addr) (ns : List Int), vs = [V.ref a] ∧ SqL K H a (ns.map V.int) ∧ Q (.int ns.sum) H
theorem cr_sum (hc : X.calm = true) : CallR X (.builtin "sum") (rSum X.K) := by
  intro pins s σ H vs us Q I r h
  obtain ⟨a, ns, rfl, hs, q⟩ := h
  obtain ⟨its, rv, hl, _⟩ := I.list hs
  rw [Vals.ref1 r]
  exact sum_raw (I.ok.hd hc) hl.isList rv.ints fun h' tk t' hk => ⟨.int _, H, I.kept hk, ⟨_, rfl⟩, q⟩
end

section
variable {X : Cx}
end

section
variable {X : Cx}
end

/-! ### any(xs), all(xs) of a list of bools -/
theorem iter_any {prog : Program} {w : World} {A : Around} {E : Value → Shared → Prop} {s : Shared} {l : Addr} {items : Array Value} {Q : Value → Shared → Prop} (hl : s.heap.IsList l items)
    (h : ∀ s₂ : Shared, s₂ = { s with heap := s.heap.push { cls := .type "list_iterator", data := .fields #[.ref l, .int 0 0] } } →
      (s₂.heap.IsListIter s.heap.objs.size l 0 ∧ s₂.heap.IsList l items) → l ≠ s.heap.objs.size → Q (.ref s.heap.objs.size) s₂) : wpAny (model prog w) A (pyIter (.ref l)) Q E s := by
  have hlt : l < s.heap.objs.size := by obtain ⟨_, e, _⟩ := hl; exact Heap.lt_size e
  exact wpAny_pyIter_list hl (h _ rfl ⟨⟨_, Heap.get?_push_size _ rfl, rfl, rfl⟩, hl.push _⟩ (Nat.ne_of_lt hlt))
theorem truth_bools {prog : Program} {w : World} {A : Around} {bs : List Bool} {its : List Value} (e : its = bs.map Value.bool) :
    TruthOf prog w A (fun i v => its.toArray[i]? = some v) (fun i => bs.getD i false) := fun i v s Q E hv hq => by
  have hv' : its[i]? = some v := by simpa using hv
  rw [e, List.getElem?_map] at hv'
  obtain ⟨b, hb, rfl⟩ := Option.map_eq_some_iff.mp hv'
  have hg : bs.getD i false = b := by rw [List.getD_eq_getElem?_getD, hb] <;> rfl
  have hq' : Q (bs.getD i false) s := hq
  rw [hg] at hq'
  exact wpAny_truthy_bool hq'
theorem any_range : ∀ bs : List Bool, (List.range bs.length).any (fun i => bs.getD i false) = bs.any id
  | [] => rfl
  | b :: bs => by
    rw [List.length_cons, List.range_succ_eq_map, List.any_cons, List.any_map, List.any_cons, ← any_range bs]
    all_goals rfl
theorem all_range : ∀ bs : List Bool, (List.range bs.length).all (fun i => bs.getD i false) = bs.all id
  | [] => rfl
  | b :: bs => by
    rw [List.length_cons, List.range_succ_eq_map, List.all_cons, List.all_map, List.all_cons, ← all_range bs]
    all_goals rfl
section
variable {X : Cx}
def rAny (K : PySem.W.Frag) : List V → Hp → VK → Prop := fun vs H Q => ∃ (a : Addr) (bs : List Bool), vs = [V.ref a] ∧ SqL K H a (bs.map V.bl) ∧ Q (.bl (bs.any id)) H
def rAll (K : PySem.W.Frag) : List V → Hp → VK → Prop := fun vs H Q => ∃ (a : Addr) (bs : List Bool), vs = [V.ref a] ∧ SqL K H a (bs.map V.bl) ∧ Q (.bl (bs.all id)) H
theorem cr_any (hc : X.calm = true) : CallR X (.builtin "any") (rAny X.K) := by
  intro pins s σ H vs us Q I r h
  obtain ⟨a, bs, rfl, hs, q⟩ := h
  obtain ⟨its, rv, hl, _⟩ := I.list hs
  rw [Vals.ref1 r]
  have hb := rv.bls
  refine call_any_walk (iter_any hl.isList fun s₂ e2 st hne => ?_)
  subst e2
  refine ⟨_, _, _, _, _, _, _, rfl, Walks.list (A := X.A.in1) (I.ok.hd hc) _ a hne its.toArray, st, truth_bools hb, fun h' tk hk => ?_⟩
  refine ⟨.bl _, H, I.kept fun b o eo => hk b o (fun hmem => ?_) (Heap.get?_push_of_some _ eo), ?_, q⟩
  · rcases List.mem_cons.mp hmem with e1 | hmem
    · exact absurd (e1 ▸ Heap.lt_size eo) (Nat.lt_irrefl _)
    · cases hmem
  · show Value.bool _ = Value.bool _
    rw [← any_range, hb, List.size_toArray, List.length_map]
theorem cr_all (hc : X.calm = true) : CallR X (.builtin "all") (rAll X.K) := by
  intro pins s σ H vs us Q I r h
  obtain ⟨a, bs, rfl, hs, q⟩ := h
  obtain ⟨its, rv, hl, _⟩ := I.list hs
  rw [Vals.ref1 r]
  have hb := rv.bls
  refine call_all_walk (iter_any hl.isList fun s₂ e2 st hne => ?_)
  subst e2
  refine ⟨_, _, _, _, _, _, _, rfl, Walks.list (A := X.A.in1) (I.ok.hd hc) _ a hne its.toArray, st, truth_bools hb, fun h' tk hk => ?_⟩
  refine ⟨.bl _, H, I.kept fun b o eo => hk b o (fun hmem => ?_) (Heap.get?_push_of_some _ eo), ?_, q⟩
  · rcases List.mem_cons.mp hmem with e1 | hmem
    · exact absurd (e1 ▸ Heap.lt_size eo) (Nat.lt_irrefl _)
    · cases hmem
  · show Value.bool _ = Value.bool _
    rw [← all_range, hb, List.size_toArray, List.length_map]
end

mutual
inductive Dp (K : PySem.W.Frag) (H : Hp) : V → PyData → Prop
  | non : Dp K H .non .none
  | bl (b : Bool) : Dp K H (.bl b) (.bool b)
  | int (i : Int) : Dp K H (.int i) (.int i)
  | str (x : Str) : Dp K H (.str x) (.str x)
  | lst {a : Addr} {xs : List V} {ds : List PyData} : SqL K H a xs → DpAll K H xs ds → Dp K H (.ref a) (.list ds)
  | tup {a : Addr} {xs : List V} {ds : List PyData} : SqT K H a xs → DpAll K H xs ds → Dp K H (.ref a) (.tuple ds)
inductive DpAll (K : PySem.W.Frag) (H : Hp) : List V → List PyData → Prop
  | nil : DpAll K H [] []
  | cons {v : V} {vs : List V} {d : PyData} {ds : List PyData} : Dp K H v d → DpAll K H vs ds → DpAll K H (v :: vs) (d :: ds)
end
section
variable {X : Cx} {pins : List (Addr × Obj)} {σ : St} {H : Hp} {s : Shared}
mutual
theorem Dp.reads (I : Inv X pins σ H s) : ∀ (d : PyData) (v : V) (u : Value), Dp X.K H v d → RelV v u → ∃ as, Reads s.heap u d as
  | .none, _, _, h, r => by
    cases h
    cases r
    exact ⟨_, Reads.none⟩
  | .bool b, _, _, h, r => by
    cases h
    cases r
    exact ⟨_, Reads.bool b⟩
  | .int i, _, _, h, r => by
    cases h
    obtain ⟨t, rfl⟩ := r
    exact ⟨_, Reads.int i t⟩
  | .str x, _, _, h, r => by
    cases h
    obtain ⟨t, rfl⟩ := r
    exact ⟨_, Reads.str x t⟩
  | .list ds, _, _, h, r => by
    cases h with
    | lst hs ha =>
      cases r
      obtain ⟨its, rv, ⟨o, n, ho, hc, _, hd⟩, _⟩ := I.list hs
      obtain ⟨as, hr⟩ := Dp.readsAll I ds _ its ha rv
      exact ⟨_, Reads.list ho hc hd hr⟩
  | .tuple ds, _, _, h, r => by
    cases h with
    | tup hs ha =>
      cases r
      obtain ⟨its, rv, ⟨o, ho, hc, n, hd⟩, _⟩ := I.tuple hs
      obtain ⟨as, hr⟩ := Dp.readsAll I ds _ its ha rv
      exact ⟨_, Reads.tuple ho hc hd hr⟩
  | .dict _, _, _, h, _ => by cases h
theorem Dp.readsAll (I : Inv X pins σ H s) : ∀ (ds : List PyData) (vs : List V) (us : List Value), DpAll X.K H vs ds → Vals vs us → ∃ as, ReadsAll s.heap us ds as
  | [], _, _, h, r => by
    cases h
    cases r
    exact ⟨_, ReadsAll.nil⟩
  | d :: ds, _, _, h, r => by
    cases h with
    | cons h1 h2 =>
      cases r with
      | cons r1 r2 =>
        obtain ⟨as, q1⟩ := Dp.reads I d _ _ h1 r1
        obtain ⟨bs, q2⟩ := Dp.readsAll I ds _ _ h2 r2
        exact ⟨_, ReadsAll.cons q1 q2⟩
end
end
section
variable {X : Cx}
def rEqD (K : PySem.W.Frag) : R2 := fun x y H Q => ∃ d e, Dp K H x d ∧ Dp K H y e ∧ SeqAt.shaped d = true ∧ SeqAt.shaped e = true ∧ Q (.bl (PyData.eqv d e)) H
def rNeD (K : PySem.W.Frag) : R2 := fun x y H Q => ∃ d e, Dp K H x d ∧ Dp K H y e ∧ SeqAt.shaped d = true ∧ SeqAt.shaped e = true ∧ Q (.bl (!PyData.eqv d e)) H
theorem op_eqD (hu : X.A.units + 64 < cLine) : OpR X (compareOp .Eq) (rEqD X.K) := by
  intro pins s σ H x y v u Q I rx ry h
  obtain ⟨d, e, hd, he, sd, se, q⟩ := h
  obtain ⟨as, r1⟩ := Dp.reads I d x v hd rx
  obtain ⟨bs, r2⟩ := Dp.reads I e y u he ry
  exact SeqAt.compareEq_shaped r1 r2 sd se hu ⟨.bl _, H, I, rfl, q⟩
theorem op_neD (hu : X.A.units + 64 < cLine) : OpR X (compareOp .NotEq) (rNeD X.K) := by
  intro pins s σ H x y v u Q I rx ry h
  obtain ⟨d, e, hd, he, sd, se, q⟩ := h
  obtain ⟨as, r1⟩ := Dp.reads I d x v hd rx
  obtain ⟨bs, r2⟩ := Dp.reads I e y u he ry
  exact SeqAt.compareNe_shaped r1 r2 sd se hu ⟨.bl _, H, I, rfl, q⟩
end
end L2

namespace L2
open PySem PySem.Spec PyProof.Rows
abbrev CellAt (h : Heap) (c : Addr) (v : Option Value) : Prop := h.IsCell c v
def relS (scope sc : Scope) : Scope :=
  { scope with names := scope.names.map fun (n, k) => if (k == .free && sc.kind == .function && sc.names.lookup n == some .cell) then (n, .cell) else (n, k) }

def cloFrom (cells : List (Str × Addr)) : List (Str × NameKind) → List (Str × Addr) → List (Str × Addr)
  | [], acc => acc
  | (n, k) :: r, acc => if k == .free then cloFrom cells r ((n, (cells.lookup n).getD 0) :: acc) else cloFrom cells r acc

theorem closure_loop (env : Env) (f : Str × NameKind → List (Str × Addr) → Sem (ForInStep (List (Str × Addr))))
    (hf : ∀ n k c, f (n, k) c = if k == .free then (do let a ← cellOf env n; pure (.yield ((n, a) :: c))) else pure (.yield c)) :
    ∀ (names : List (Str × NameKind)) (acc : List (Str × Addr)), (∀ y ∈ names, y.2 = .free → ∃ c, env.cells.lookup y.1 = some c) → forIn names acc f = pure (cloFrom env.cells names acc)
  | [], acc, _ => by rw [List.forIn_nil]; rfl
  | (n, k) :: r, acc, h => by
    rw [List.forIn_cons, hf]
    have ih := fun acc => closure_loop env f hf r acc fun y hy => h y (List.mem_cons_of_mem _ hy)
    unfold cloFrom
    by_cases hk : (k == NameKind.free) = true
    · rw [if_pos hk, if_pos hk]
      obtain ⟨c, hc⟩ := h (n, k) List.mem_cons_self (by simpa using hk)
      have e : cellOf env n = pure c := by unfold cellOf; rw [hc]
      rw [e]
      have e2 : (env.cells.lookup n).getD 0 = c := by rw [hc]; rfl
      rw [e2]
      exact ih _
    · rw [if_neg hk, if_neg hk]
      exact ih _
theorem closure_ok {scope : Scope} {env : Env} (h : ∀ y ∈ scope.names, y.2 = .free → ∃ c, env.cells.lookup y.1 = some c) : closureFor scope env = pure (cloFrom env.cells scope.names []) := by
  simp only [closureFor]
  rw [closure_loop env _ (fun n k c => rfl) scope.names [] h]
  rfl

theorem mem_lookup {α : Type} : ∀ {l : List (Str × α)} {n : Str} {c : α}, (n, c) ∈ l → ∃ c', l.lookup n = some c'
  | (k, v) :: r, n, c, h => by
    rw [List.lookup_cons]
    cases hb : n == k with
    | true => exact ⟨_, rfl⟩
    | false =>
      rcases List.mem_cons.mp h with e | h
      · cases e; simp at hb
      · exact mem_lookup h

theorem cloFrom_mem {cells : List (Str × Addr)} : ∀ {names : List (Str × NameKind)} {acc : List (Str × Addr)} {n : Str} {c : Addr}, (n, c) ∈ cloFrom cells names acc → (n, c) ∈ acc ∨ ((n, .free) ∈ names ∧ c = (cells.lookup n).getD 0)
  | [], _, _, _, h => .inl h
  | (m, k) :: r, acc, n, c, h => by
    unfold cloFrom at h
    split at h
    · rename_i hk
      have hk : k = .free := by simpa using hk
      rcases cloFrom_mem h with h | ⟨h1, h2⟩
      · rcases List.mem_cons.mp h with e | h
        · cases e; exact .inr ⟨hk ▸ List.mem_cons_self, rfl⟩
        · exact .inl h
      · exact .inr ⟨List.mem_cons_of_mem _ h1, h2⟩
    · rcases cloFrom_mem h with h | ⟨h1, h2⟩
      · exact .inl h
      · exact .inr ⟨List.mem_cons_of_mem _ h1, h2⟩
theorem cloFrom_acc {cells : List (Str × Addr)} : ∀ {names : List (Str × NameKind)} {acc : List (Str × Addr)} {p : Str × Addr}, p ∈ acc → p ∈ cloFrom cells names acc
  | [], _, _, h => h
  | (m, k) :: r, acc, p, h => by
    unfold cloFrom
    split
    · exact cloFrom_acc (List.mem_cons_of_mem _ h)
    · exact cloFrom_acc h
theorem cloFrom_has {cells : List (Str × Addr)} : ∀ {names : List (Str × NameKind)} {acc : List (Str × Addr)} {n : Str}, (n, .free) ∈ names → (n, (cells.lookup n).getD 0) ∈ cloFrom cells names acc
  | (m, k) :: r, acc, n, h => by
    unfold cloFrom
    rcases List.mem_cons.mp h with e | h
    · cases e
      exact cloFrom_acc List.mem_cons_self
    · split
      · exact cloFrom_has h
      · exact cloFrom_has h

theorem cells_mem : ∀ {names : List (Str × NameKind)} {h : Heap} {acc : List (Str × Addr)} {x : Str} {c : Addr}, (x, c) ∈ cellsFrom h.objs.size names acc →
    (x, c) ∈ acc ∨ ((x, .cell) ∈ names ∧ h.objs.size ≤ c ∧ CellAt (pushCells h names) c none)
  | [], _, _, _, _, h => .inl h
  | (n, k) :: r, h, acc, x, c, hm => by
    unfold cellsFrom at hm
    unfold pushCells
    split at hm
    · rename_i hk
      rw [if_pos hk]
      have hk : k = .cell := by simpa using hk
      rw [← Heap.size_push h { cls := .type "cell", data := .cell none }] at hm
      rcases cells_mem hm with hm | ⟨h1, h2, h3⟩
      · rcases List.mem_cons.mp hm with e | hm
        · cases e
          exact .inr ⟨hk ▸ List.mem_cons_self, Nat.le_refl _, _, pushCells_keeps r _ _ _ (Heap.get?_push_size _ rfl), rfl⟩
        · exact .inl hm
      · rw [Heap.size_push] at h2
        exact .inr ⟨List.mem_cons_of_mem _ h1, Nat.le_of_succ_le h2, h3⟩
    · rename_i hk
      rw [if_neg hk]
      rcases cells_mem hm with hm | ⟨h1, h2, h3⟩
      · exact .inl hm
      · exact .inr ⟨List.mem_cons_of_mem _ h1, h2, h3⟩
theorem cells_acc : ∀ {names : List (Str × NameKind)} {n : Nat} {acc : List (Str × Addr)} {p : Str × Addr}, p ∈ acc → p ∈ cellsFrom n names acc
  | [], _, _, _, h => h
  | (m, k) :: r, n, acc, p, h => by
    unfold cellsFrom
    split
    · exact cells_acc (List.mem_cons_of_mem _ h)
    · exact cells_acc h
theorem cells_has : ∀ {names : List (Str × NameKind)} {n : Nat} {acc : List (Str × Addr)} {x : Str}, (x, .cell) ∈ names → ∃ c, (x, c) ∈ cellsFrom n names acc
  | (m, k) :: r, n, acc, x, h => by
    unfold cellsFrom
    rcases List.mem_cons.mp h with e | h
    · cases e
      exact ⟨n, cells_acc List.mem_cons_self⟩
    · split
      · exact cells_has h
      · exact cells_has h
theorem cells_inj : ∀ {names : List (Str × NameKind)} {h : Heap} {acc : List (Str × Addr)} {x y : Str} {c : Addr}, (∀ p ∈ acc, p.2 < h.objs.size) → (∀ x y c, (x, c) ∈ acc → (y, c) ∈ acc → x = y) →
    (x, c) ∈ cellsFrom h.objs.size names acc → (y, c) ∈ cellsFrom h.objs.size names acc → x = y
  | [], _, _, _, _, _, _, hi, h1, h2 => hi _ _ _ h1 h2
  | (n, k) :: r, h, acc, x, y, c, hl, hi, h1, h2 => by
    unfold cellsFrom at h1 h2
    split at h1
    · rename_i hk
      rw [if_pos hk] at h2
      rw [← Heap.size_push h { cls := .type "cell", data := .cell none }] at h1 h2
      refine cells_inj (h := h.push _) (fun p hp => ?_) (fun x y c a b => ?_) h1 h2
      · rw [Heap.size_push]
        rcases List.mem_cons.mp hp with rfl | hp
        · exact Nat.lt_succ_self _
        · exact Nat.lt_succ_of_lt (hl p hp)
      · rcases List.mem_cons.mp a with e | a <;> rcases List.mem_cons.mp b with e' | b
        · cases e; cases e'; rfl
        · cases e; exact absurd (hl _ b) (Nat.lt_irrefl _)
        · cases e'; exact absurd (hl _ a) (Nat.lt_irrefl _)
        · exact hi _ _ _ a b
    · rename_i hk
      rw [if_neg hk] at h2
      exact cells_inj hl hi h1 h2

theorem newEnv_comp {M : Model} {A : Around} {E : Value → Shared → Prop} {s : Shared} {scope : Scope} {globals : Addr} {closure : List (Str × Addr)} {qual : Str} {func : Option Addr} {code : Value} {around : Env} {builtins : Addr} {Q : Env → Shared → Prop}
    (h : Q (newEnv scope s.heap.objs.size globals (cellsFrom (s.heap.objs.size + 1) scope.names closure) qual func code (some around) builtins)
      { s with heap := pushCells (s.heap.push { cls := .type "dict", data := .dict #[] }) scope.names }) :
    wpAny M A (newFunctionEnv scope globals closure [] qual func code (some around) builtins) Q E s := by
  simp only [newFunctionEnv, Option.isSome_some, if_true]
  refine wpAny_bind (wpAny_alloc ?_)
  refine wpAny_bind (wpAny_layCells _ (fun n k c => rfl) scope.names closure _ _ ?_)
  rw [show ({ s with heap := s.heap.push { cls := .type "dict", data := .dict #[] } } : Shared).heap.objs.size = s.heap.objs.size + 1 from Heap.size_push ..]
  rw [List.forIn_nil]
  exact wpAny_bind (wpAny_pure (wpAny_pure h))

/-- every name of the written scope, in the scope that runs -/
theorem lookup_relS {sc : Scope} : ∀ {names : List (Str × NameKind)} {x : Str} {k : NameKind},
    (names.map fun (n, k) => if (k == NameKind.free && sc.kind == .function && sc.names.lookup n == some .cell) then (n, NameKind.cell) else (n, k)).lookup x = some k →
    ∃ k', names.lookup x = some k' ∧ (k = k' ∨ (k' = .free ∧ k = .cell))
  | [], _, _, h => by simp at h
  | (n, k₀) :: r, x, k, h => by
    have ih := @lookup_relS sc r x k
    have h' : List.lookup x ((if (k₀ == NameKind.free && sc.kind == .function && sc.names.lookup n == some .cell) = true then (n, NameKind.cell) else (n, k₀)) :: (r.map _)) = some k := h
    cases hx : x == n with
    | true =>
      simp only [List.lookup_cons, hx]
      by_cases hc : (k₀ == NameKind.free && sc.kind == .function && sc.names.lookup n == some .cell) = true
      · rw [if_pos hc] at h'
        simp only [List.lookup_cons, hx] at h'
        cases h'
        simp only [Bool.and_eq_true, beq_iff_eq] at hc
        exact ⟨k₀, rfl, .inr ⟨hc.1.1, rfl⟩⟩
      · rw [if_neg hc] at h'
        simp only [List.lookup_cons, hx] at h'
        cases h'
        exact ⟨_, rfl, .inl rfl⟩
    | false =>
      simp only [List.lookup_cons, hx]
      by_cases hc : (k₀ == NameKind.free && sc.kind == .function && sc.names.lookup n == some .cell) = true
      · rw [if_pos hc] at h'
        simp only [List.lookup_cons, hx] at h'
        exact ih h'
      · rw [if_neg hc] at h'
        simp only [List.lookup_cons, hx] at h'
        exact ih h'
/-- the names of a comprehension's block: its own (with their places in N), or captured -/
structure BlkOk (N : List Str) (sc scope : Scope) (own : List (Str × Nat)) : Prop where
  kind : scope.kind = .function
  uniq : ∀ y ∈ scope.names, scope.names.lookup y.1 = some y.2
  ix : ∀ p ∈ own, N[p.2]? = some p.1
  free : ∀ y ∈ scope.names, y.2 = .free → sc.names.lookup y.1 = some .cell ∨ sc.names.lookup y.1 = some .free
  own : ∀ y ∈ scope.names, y.2 = .local ∨ y.2 = .cell → y.1 ∈ own.map (·.1) ∨ y.1 ∉ N
/-- the slots of the block's own names forgotten -/
def wipe (σ : St) : List Nat → St
  | [] => σ
  | v :: vs => (wipe σ vs).set v none
theorem wipe_length (σ : St) : ∀ vs : List Nat, (wipe σ vs).length = σ.length
  | [] => rfl
  | v :: vs => by unfold wipe; rw [List.length_set, wipe_length σ vs]
theorem wipe_some {σ : St} {i : Nat} {x : V} : ∀ {vs : List Nat}, (wipe σ vs)[i]? = some (some x) → σ[i]? = some (some x) ∧ i ∉ vs
  | [], h => ⟨h, by simp⟩
  | v :: vs, h => by
    unfold wipe at h
    by_cases hi : v = i
    · subst hi
      by_cases hv : v < (wipe σ vs).length
      · rw [List.getElem?_set_self hv] at h; cases h
      · rw [List.getElem?_eq_none (by simpa using hv)] at h; cases h
    · rw [List.getElem?_set_ne hi] at h
      obtain ⟨h1, h2⟩ := wipe_some h
      exact ⟨h1, by simp only [List.mem_cons, not_or]; exact ⟨fun e => hi e.symm, h2⟩⟩

/-- the context of a block that starts at s, its iterator's objects at fp -/
abbrev Cx.blk (X : Cx) (s : Shared) (H : Hp) (scope : Scope) (cenv : Env) (fp : List Addr) : Cx := { X with s_0 := s, H_0 := H, env := cenv, outer := X.stack, ex := fp, fn := fun x => scope.names.lookup x == some .cell, pn := [], xe := fun _ _ => False }
section
variable {X : Cx} {pins : List (Addr × Obj)} {σ : St} {H : Hp} {s : Shared}
theorem block_start {scope : Scope} {own : List (Str × Nat)} {fp : List Addr} (I : Inv X pins σ H s) (ok : BlkOk X.N X.env.scope scope own) (hN : X.N.Nodup) (hfp : ∀ b ∈ fp, FpOk X pins H b ∧ b < s.heap.objs.size) :
    Inv (X.blk s H scope (compEnvC scope (cellsFrom (s.heap.objs.size + 1) scope.names (cloFrom X.env.cells scope.names [])) s.heap.objs.size X.env) fp) [] (wipe σ (own.map (·.2))) H { s with heap := pushCells (s.heap.push { cls := .type "dict", data := .dict #[] }) scope.names } := by
  have hfree : ∀ y ∈ scope.names, y.2 = .free → ∃ c, X.env.cells.lookup y.1 = some c := fun y hy e => by
    rcases ok.free y hy e with k | k
    · exact I.ok.has _ (.inl k)
    · exact I.ok.has _ (.inr k)
  generalize hcenv : compEnvC scope (cellsFrom (s.heap.objs.size + 1) scope.names (cloFrom X.env.cells scope.names [])) s.heap.objs.size X.env = cenv
  have kp : ∀ b o, s.heap.get? b = some o → (pushCells (s.heap.push { cls := .type "dict", data := .dict #[] }) scope.names).get? b = some o := fun b o e => pushCells_keeps _ _ _ _ (Heap.get?_push_of_some _ e)
  have hL : cenv.locals = s.heap.objs.size := by rw [← hcenv]; rfl
  have hcl : cenv.cells = cellsFrom (s.heap.objs.size + 1) scope.names (cloFrom X.env.cells scope.names []) := by rw [← hcenv]; rfl
  have hsc : cenv.scope = relS scope X.env.scope := by rw [← hcenv]; rfl
  rw [← Heap.size_push s.heap { cls := .type "dict", data := .dict #[] }] at hcl
  have cm : ∀ {y c}, (y, c) ∈ cloFrom X.env.cells scope.names [] → X.env.cells.lookup y = some c ∧ c < s.heap.objs.size := fun {y c} hm => by
    rcases cloFrom_mem hm with hm | ⟨h1, rfl⟩
    · cases hm
    · obtain ⟨c, hc⟩ := hfree _ h1 rfl
      rw [hc]
      obtain ⟨w, z⟩ := I.cell _ _ hc
      exact ⟨rfl, z.lt⟩
  have mem : ∀ {y c}, cenv.cells.lookup y = some c → (X.env.cells.lookup y = some c ∧ c < s.heap.objs.size) ∨ (s.heap.objs.size + 1 ≤ c ∧ CellAt (pushCells (s.heap.push { cls := .type "dict", data := .dict #[] }) scope.names) c none) := fun {y c} e => by
    rw [hcl] at e
    rcases cells_mem (PySem.mem_of_lookup e) with hm | ⟨_, h2, h3⟩
    · exact .inl (cm hm)
    · rw [Heap.size_push] at h2; exact .inr ⟨h2, h3⟩
  have look : ∀ {y}, scope.names.lookup y = some .free → ∃ c, cenv.cells.lookup y = some c ∧ X.env.cells.lookup y = some c := fun {y} hl => by
    have hy : (y, NameKind.free) ∈ scope.names := PySem.mem_of_lookup hl
    obtain ⟨c', e'⟩ := mem_lookup (cells_acc (names := scope.names) (n := (s.heap.push { cls := .type "dict", data := .dict #[] }).objs.size) (cloFrom_has (cells := X.env.cells) (acc := []) hy))
    rw [← hcl] at e'
    refine ⟨c', e', ?_⟩
    rw [hcl] at e'
    rcases cells_mem (PySem.mem_of_lookup e') with hm | ⟨h1, _, _⟩
    · exact (cm hm).1
    · have := ok.uniq _ h1
      rw [hl] at this; cases this
  have okB : (X.blk s H scope cenv fp).Ok := by
    refine ⟨I.ok.mod, by show cenv.scope.kind = _; rw [hsc]; exact ok.kind, by show cenv.globals = _; rw [← hcenv]; exact I.ok.glob, by show cenv.builtins = _; rw [← hcenv]; exact I.ok.blt, by show s.heap.objs.size ≤ cenv.locals; rw [hL]; exact Nat.le_refl _,
      fun y z c e1 e2 => ?_, fun y hy => ?_, fun y c z e => ?_, I.ok.hd, I.ok.frames, .inl rfl, fun b hb => ⟨?_, fun y c e z => ?_⟩, I.bs, Nat.le_trans I.ok.bsz I.sz, fun b o e hb => ?_, fun b hb z => ?_, I.stack, I.stkFree⟩
    · have e1 : cenv.cells.lookup y = some c := e1
      have e2 : cenv.cells.lookup z = some c := e2
      rw [hcl] at e1 e2
      refine cells_inj (fun p hp => ?_) (fun y z c a b => I.ok.inj y z c (cm a).1 (cm b).1) (PySem.mem_of_lookup e1) (PySem.mem_of_lookup e2)
      rw [Heap.size_push]
      exact Nat.lt_succ_of_lt (cm (y := p.1) (c := p.2) hp).2
    · show ∃ c, cenv.cells.lookup y = some c
      have key : ∀ k, cenv.kindOf y = some k → (k = .cell ∨ k = .free) → ∃ c, cenv.cells.lookup y = some c := fun k hk hk' => by
        unfold Env.kindOf at hk
        rw [hsc] at hk
        obtain ⟨k', e, r⟩ := lookup_relS hk
        have : k' = .cell ∨ k' = .free := by
          rcases r with rfl | ⟨rfl, _⟩
          · exact hk'
          · exact .inr rfl
        rcases this with rfl | rfl
        · obtain ⟨c, hm⟩ := cells_has (n := (s.heap.push { cls := .type "dict", data := .dict #[] }).objs.size) (acc := cloFrom X.env.cells scope.names []) (PySem.mem_of_lookup e)
          obtain ⟨c', e'⟩ := mem_lookup hm
          exact ⟨c', by rw [hcl]; exact e'⟩
        · obtain ⟨c, h1, _⟩ := look e
          exact ⟨c, h1⟩
      rcases hy with hy | hy
      · exact key _ hy (.inl rfl)
      · exact key _ hy (.inr rfl)
    · have z : (scope.names.lookup y == some NameKind.cell) = true := z
      have z : scope.names.lookup y = some .cell := by simpa using z
      have e : cenv.cells.lookup y = some c := e
      rw [hcl] at e
      rcases cells_mem (PySem.mem_of_lookup e) with hm | ⟨_, h2, _⟩
      · rcases cloFrom_mem hm with hm | ⟨h1, _⟩
        · cases hm
        · have q := ok.uniq _ h1
          rw [z] at q; cases q
      · rw [Heap.size_push] at h2
        exact Nat.le_of_succ_le h2
    · show b ≠ cenv.locals
      rw [hL]; exact Nat.ne_of_lt (hfp b hb).2
    · have e : cenv.cells.lookup y = some c := e
      rcases mem e with ⟨h1, _⟩ | ⟨h1, _⟩
      · exact (hfp b hb).1.2.2.2.2.1 y c h1 z
      · have h2 : s.heap.objs.size + 1 ≤ b := by rw [← z]; exact h1
        exact absurd (Nat.lt_of_lt_of_le (hfp b hb).2 (Nat.le_of_succ_le h2)) (Nat.lt_irrefl _)
    · rcases (hfp b hb).1.2.2.2.1 with z | z
      · exact I.ok.noex b o e z
      · exact absurd (Nat.lt_of_lt_of_le (Heap.lt_size e) (Nat.le_trans I.ok.bsz z)) (Nat.lt_irrefl _)
    · rcases List.mem_cons.mp (I.stkSub b z) with z | z
      · exact (hfp b hb).1.2.1 z
      · exact (hfp b hb).1.2.2.1 z
  refine ⟨okB, rfl, I.bare, Un.kept kp, ⟨fun _ => none, ?_, fun i y av e1 e2 e3 => ?_⟩, fun y c e => ?_, ?_, fun y c e => ?_, fun p hp => ?_, I.hok.kept kp, by rw [wipe_length]; exact I.len⟩
  · show Heap.Ns _ cenv.locals _
    rw [hL]
    exact Heap.Ns.keeps (Heap.Ns.new ..) fun b o e => pushCells_keeps _ _ _ _ e
  · obtain ⟨e2, hne⟩ := wipe_some e2
    have hfr : scope.names.lookup y = some .free ∧ (cenv.kindOf y = some .cell ∨ cenv.kindOf y = some .free) := by
      have key : ∀ k, cenv.scope.names.lookup y = some k → k = .local ∨ k = .cell ∨ k = .free → scope.names.lookup y = some .free ∧ (cenv.kindOf y = some .cell ∨ cenv.kindOf y = some .free) := fun k hk hk' => by
        have hk0 := hk
        rw [hsc] at hk
        obtain ⟨k', e, r⟩ := lookup_relS hk
        have no : ¬ (k' = .local ∨ k' = .cell) := fun hh => by
          rcases ok.own _ (PySem.mem_of_lookup e) hh with e' | e'
          · obtain ⟨p, hp, hpy⟩ := List.mem_map.mp e'
            have e3 := ok.ix p hp
            have : p.1 = y := hpy
            rw [this] at e3
            exact hne (List.mem_map.mpr ⟨p, hp, nodup_ix hN e3 e1⟩)
          · exact e' (List.mem_of_getElem? e1)
        rcases r with rfl | ⟨rfl, rfl⟩
        · rcases hk' with rfl | rfl | rfl
          · exact absurd (.inl rfl) no
          · exact absurd (.inr rfl) no
          · exact ⟨e, .inr hk0⟩
        · exact ⟨e, .inl hk0⟩
      have e3 : Vis cenv.scope y := e3
      rcases e3 with e3 | e3 | e3
      · exact key _ e3 (.inl rfl)
      · exact key _ e3 (.inr (.inl rfl))
      · exact key _ e3 (.inr (.inr rfl))
    obtain ⟨m, hn, hl⟩ := I.loc
    have hvis : Vis X.env.scope y := (ok.free _ (PySem.mem_of_lookup hfr.1) rfl).elim (fun k => .inr (.inl k)) (fun k => .inr (.inr k))
    obtain ⟨w, r, q⟩ := hl i y av e1 e2 hvis
    refine ⟨w, r, .inr ⟨hfr.2, ?_⟩⟩
    obtain ⟨c, h1, h2⟩ := look hfr.1
    rcases q with ⟨k, _⟩ | ⟨_, c', e', z⟩
    · have k : X.env.scope.names.lookup y = some .local := k
      rcases ok.free _ (PySem.mem_of_lookup hfr.1) rfl with k' | k' <;> rw [show X.env.scope.names.lookup y = _ from k'] at k <;> cases k
    · rw [h2] at e'; cases e'
      exact ⟨c, h1, z.keeps kp⟩
  · have e : cenv.cells.lookup y = some c := e
    rcases mem e with ⟨h1, _⟩ | ⟨_, z⟩
    · obtain ⟨w, z⟩ := I.cell y c h1
      exact ⟨w, z.keeps kp⟩
    · exact ⟨_, z⟩
  · show H cenv.locals = none
    rw [hL]; exact I.hok.fresh (Nat.le_refl _)
  · have e : cenv.cells.lookup y = some c := e
    rcases mem e with ⟨h1, _⟩ | ⟨h1, _⟩
    · exact I.freeC y c h1
    · exact I.hok.fresh (Nat.le_of_succ_le h1)
  · exact absurd (show p ∈ ([] : List (Addr × Obj)) ++ [] from hp) (by simp)

/-- an item appended to a tracked list -/
theorem app_ok {E : Value → Shared → Prop} {D : Addr} {xs : List V} {y : V} {v : Value} {Q : Value → Shared → Prop} (I : Inv X pins σ H s) (hD : H D = some (.lst xs)) (hz : xs.length < sizeLine) (r : RelV y v)
    (h : ∀ s', Inv X pins σ (upd H D (.lst (xs ++ [y]))) s' → Q .none s') : wpAny (model X.prog X.w) X.A (call (.builtin "list.append") [.ref D, v]) Q E s := by
  obtain ⟨hz', its, n, ri, e⟩ := I.hok D _ hD
  have hl := ri.length
  refine append_at (hsz := by rw [List.size_toArray]; omega) e fun h' sb ho' => ?_
  refine h { s with heap := h' } (I.write (t' := s.toks) (by rw [hD]; trivial) (.inl rfl) (fun b u hb q => (sb.2 b hb).trans q) ⟨_, ho'⟩ ⟨by rw [List.length_append]; exact hz, its ++ [v], n + 1, ri.append (.cons r .nil), ?_⟩)
  rw [ho']
  simp

/-- a clause's tests -/
def PTs (X : Cx) (ifs : List Expr) (t : TT) : Prop :=
  ∀ (pins : List (Addr × Obj)) (s : Shared) (σ : St) (H : Hp) (Q : Bool → Hp → Prop), Inv X pins σ H s → t σ H Q →
    wpAny (model X.prog X.w) X.A (forIn ifs true fun c r => if r = true then do let ok ← isTrue c X.env (eval c X.env); pure (ForInStep.yield ok) else pure (ForInStep.yield r)) (TP X pins σ Q) X.xe s
def tYes : TT := fun _ H Q => Q true H
theorem pts_nil : PTs X [] tYes := fun _ _ _ H _ I h => wpAny_tests_nil ⟨H, I, h⟩
end

theorem thnF {α : Type} {t : Sem α} {Q Q' : α → Shared → Prop} {M : Model} {A : Around} {E : Value → Shared → Prop} {s : Shared} (h : wpAny M A t Q (fun _ _ => False) s) (hQ : ∀ a s, Q a s → Q' a s) : wpAny M A t Q' E s := wpAny_mono h hQ fun _ _ z => False.elim z

/-- the loop of a list comprehension's block, the target of any form (codeAny_compLoop_tests asks a target that no tuple goes to; statement and proof follow it, PyProof/CompMap.lean:41-61, with the step letOwnedTupleGo kept) -/
theorem compLoop_any {prog : Program} {w : World} {A : Around} {R : Result → Shared → Prop} {s : Shared} {elt target iter : Expr} {ifs : List Expr} {scope : Scope} {pos : Pos} {it acc : Value} {env : Env} (I : Nat → Shared → Prop)
    (turn : ∀ n s, I n s → wpAny (model prog w) A (pyNext it) (fun r s₁ => match r with
      | none => R (.ok .next) s₁
      | some v => wpAny (model prog w) A (letOwnedTupleGo target it v) (fun _ s₁' => wpAny (model prog w) A (assign target env v) (fun _ s₂ =>
          wpAny (model prog w) A (forIn ifs true fun c r => if r = true then do let ok ← isTrue c env (eval c env); pure (ForInStep.yield ok) else pure (ForInStep.yield r)) (fun ok s₃ =>
            if ok = true then wpAny (model prog w) A (eval elt env) (fun x s₄ =>
              wpAny (model prog w) A (call (.builtin "list.append") [acc, x]) (fun _ s₅ => ∃ m, m < n ∧ I m s₅) (notedBy (model prog w) A env fun e s' => R (.error e) s') s₄) (notedBy (model prog w) A env fun e s' => R (.error e) s') s₃
            else ∃ m, m < n ∧ I m s₃) (notedBy (model prog w) A env fun e s' => R (.error e) s') s₂) (notedBy (model prog w) A env fun e s' => R (.error e) s') s₁') (notedBy (model prog w) A env fun e s' => R (.error e) s') s₁) (notedBy (model prog w) A env fun e s' => R (.error e) s') s)
    (n : Nat) (h : I n s) :
    codeAny (model prog w) A (.compLoop (.ListComp elt [⟨target, iter, ifs, 0⟩] scope pos) 0 it acc env) R s := by
  refine codeAny_loop rfl I (fun n s hI => ?_) n h
  show wpAny _ A ((compTurn (.ListComp elt [⟨target, iter, ifs, 0⟩] scope pos) 0 it acc env).onRaise (fun x => do noteFrame x env; theTreesLotGoes x)) _ _ s
  refine wpAny_noted ?_
  rw [compTurn_list]
  refine wpAny_bind (wpAny_standAt (wpAny_bind (wpAny_mono (turn n s hI) (fun r s₁ h₁ => ?_) fun _ _ h' => h')))
  cases r with
  | none => exact wpAny_pure h₁
  | some v =>
    refine wpAny_bind (wpAny_mono h₁ (fun _ s₁' h₁' => ?_) fun _ _ h' => h')
    refine wpAny_bind (wpAny_mono h₁' (fun _ s₂ h₂ => wpAny_bind (wpAny_mono h₂ (fun ok s₃ h₃ => ?_) fun _ _ h' => h')) fun _ _ h' => h')
    cases ok with
    | false => exact wpAny_pure ⟨rfl, h₃⟩
    | true =>
      exact wpAny_bind (wpAny_bind (wpAny_mono h₃ (fun x s₄ h₄ => wpAny_bind (wpAny_mono h₄ (fun _ s₅ h₅ => wpAny_pure (wpAny_pure ⟨rfl, h₅⟩)) fun _ _ h' => h')) fun _ _ h' => h'))

section
variable {X : Cx}
/-- [elt for target in iter if ..]: D the new list; W by the turn and a measure, Nx what a turn is to reach -/
def tLc (wi : TI) (g : TG) (tt : TT) (te : TE) (vs : List Nat) : TE := fun σ H Q => wi σ H fun J H1 => ∀ D, H1 D = none → ∃ W : Nat → Nat → Hp → Prop, (∃ m, W 0 m (upd H1 D (.lst []))) ∧ ∀ i m H, W i m H →
  (J.stop i H ∧ Q (.ref D) H) ∨ (J.go i H ∧ ∃ Nx : Hp → Prop, (∀ H', Nx H' → ∃ m', m' < m ∧ W (i + 1) m' H') ∧ ∀ x H', J.yld i H x H' → g x (wipe σ vs) H' fun σ2 H2 => wipe σ2 vs = wipe σ vs ∧ tt σ2 H2 fun b H3 =>
    if b = true then te σ2 H3 fun y H4 => ∃ acc, H4 D = some (.lst acc) ∧ acc.length < sizeLine ∧ Nx (upd H4 D (.lst (acc ++ [y]))) else Nx H3)
theorem lc_core {pins : List (Addr × Obj)} {s : Shared} {σ : St} {H : Hp} {Q : VK} {elt tg iter : Expr} {ifs : List Expr} {scope : Scope} {own : List (Str × Nat)} {pos pos' : Pos} {wi : TI} {g : TG} {tt : TT} {te : TE} {use : Option (Value → Sem Unit)} {Qf : Value → Shared → Prop}
    (hc : X.calm = true) (hN : X.N.Nodup) (I : Inv X pins σ H s) (hi : PI X tg iter wi) (ok : BlkOk X.N X.env.scope scope own)
    (hg : ∀ (s : Shared) (H : Hp) (C : Addr) (cl : List (Str × Addr)) (fp : List Addr), PG (X.blk s H scope (compEnvC scope cl C X.env) fp) tg g) (ht : ∀ (s : Shared) (H : Hp) (C : Addr) (cl : List (Str × Addr)) (fp : List Addr), PTs (X.blk s H scope (compEnvC scope cl C X.env) fp) ifs tt)
    (he : ∀ (s : Shared) (H : Hp) (C : Addr) (cl : List (Str × Addr)) (fp : List Addr), PE (X.blk s H scope (compEnvC scope cl C X.env) fp) elt te) (hs : ∀ x, foldedSetIterable iter X.env x = pure x)
    (h : tLc wi g tt te (own.map (·.2)) σ H Q)
    (hRR : ∀ D C s' m H', Inv X pins σ H' s' → Q (.ref D) H' → s'.heap.Ns C m → FpOk X pins H' C → compPost (model X.prog X.w) X.A X.xe use Qf (.ref D) C (.ok .next) s') :
    wpAny (model X.prog X.w) X.A (comprehension (.ListComp elt [⟨tg, iter, ifs, 0⟩] scope pos) scope X.env pos' (newList []) false (eval iter X.env) use) Qf X.xe s := by
  have hfree : ∀ y ∈ scope.names, y.2 = .free → ∃ c, X.env.cells.lookup y.1 = some c := fun y hy e => by
    rcases ok.free y hy e with k | k
    · exact I.ok.has _ (.inl k)
    · exact I.ok.has _ (.inr k)
  refine wpAny_comprehension_free (use := use) rfl hs (closure_ok hfree) ok.kind (fun y hy e => by rw [ok.uniq y hy, e])
    (thn (hi pins s σ H _ I h) fun xv s1 hx => thn hx fun itv s2 h2 => ?_)
  obtain ⟨it, fp, tn, J, H2, e, I2, T, st2, f2, q⟩ := h2
  subst e
  refine wpAny_newObj_type (newEnv_comp ?_) (by show 0 ≤ sizeLine; decide)
  generalize hD : s2.heap.objs.size = D
  have hDn : H2 D = none := I2.hok.fresh (Nat.le_of_eq hD)
  obtain ⟨W, ⟨m0, w0⟩, turn⟩ := q D hDn
  -- the new list
  generalize hs3 : ({ s2 with heap := s2.heap.push { cls := .type "list", data := .seq ([] : List Value).toArray } } : Shared) = s3
  have I3 : Inv X pins σ (upd H2 D (.lst [])) s3 := by
    rw [← hs3]
    refine I2.laid (t' := s2.toks) (fun b o e => Heap.get?_push_of_some _ e) (Nat.le_of_eq hD) ⟨Nat.zero_le _, [], 0, .nil, ?_⟩
    rw [← hD]
    exact Heap.get?_push_size _ rfl
  have h3 : s3.heap = s2.heap.push { cls := .type "list", data := .seq ([] : List Value).toArray } := by rw [← hs3]
  have sz : ∀ b ∈ fp, b < s2.heap.objs.size := fun b hb => by
    obtain ⟨o, e, _⟩ := T.obj _ _ st2 b hb
    exact Heap.lt_size e
  have f3 : ∀ b ∈ fp, FpOk X pins (upd H2 D (.lst [])) b ∧ b < s3.heap.objs.size := fun b hb => by
    have hlt := sz b hb
    refine ⟨⟨?_, (f2 b hb).2⟩, by rw [h3, Heap.size_push]; exact Nat.lt_succ_of_lt hlt⟩
    rw [upd_ne (by rw [← hD]; exact Nat.ne_of_lt hlt)]
    exact (f2 b hb).1
  have st3 : tn 0 s3.heap := T.keep _ _ _ st2 fun b _ o e => by rw [h3]; exact Heap.get?_push_of_some _ e
  have I4 := block_start I3 ok hN f3
  have pg := hg s3 (upd H2 D (.lst [])) s3.heap.objs.size (cellsFrom (s3.heap.objs.size + 1) scope.names (cloFrom X.env.cells scope.names [])) fp
  have pt := ht s3 (upd H2 D (.lst [])) s3.heap.objs.size (cellsFrom (s3.heap.objs.size + 1) scope.names (cloFrom X.env.cells scope.names [])) fp
  have pe := he s3 (upd H2 D (.lst [])) s3.heap.objs.size (cellsFrom (s3.heap.objs.size + 1) scope.names (cloFrom X.env.cells scope.names [])) fp
  show codeAny _ _ (.compStart (.ListComp elt [⟨tg, iter, ifs, 0⟩] scope pos) 0 (.ref it) (.ref D) (compEnvC scope (cellsFrom (s3.heap.objs.size + 1) scope.names (cloFrom X.env.cells scope.names [])) s3.heap.objs.size X.env)) (compPost (model X.prog X.w) X.A X.xe use Qf (.ref D) s3.heap.objs.size) { s3 with heap := pushCells (s3.heap.push { cls := .type "dict", data := .dict #[] }) scope.names }
  have nfp : ∀ b ∈ fp, (upd H2 D (.lst [])) b = none := fun b hb => (f3 b hb).1.1
  generalize hce : compEnvC scope (cellsFrom (s3.heap.objs.size + 1) scope.names (cloFrom X.env.cells scope.names [])) s3.heap.objs.size X.env = ce at I4 pg pt pe ⊢
  have cL : ce.locals = s3.heap.objs.size := by subst hce; rfl
  generalize hH3 : upd H2 D (.lst []) = H3 at I3 I4 pg pt pe w0 nfp f3
  generalize hs4 : ({ s3 with heap := pushCells (s3.heap.push { cls := .type "dict", data := .dict #[] }) scope.names } : Shared) = s4 at I4 ⊢
  have st4 : tn 0 s4.heap := T.keep _ _ _ st3 fun b _ o e => by rw [← hs4]; exact pushCells_keeps _ _ _ _ (Heap.get?_push_of_some _ e)
  have stat : ∀ {σ' : St} {H' : Hp} {s' : Shared}, Inv (X.blk s3 H3 scope ce fp) [] σ' H' s' → (∀ b ∈ fp, H' b = none) → ∀ b ∈ fp, FpOk (X.blk s3 H3 scope ce fp) [] H' b := fun {σ' H' s'} I' hn b hb =>
    ⟨hn b hb, (I'.ok.exf b hb).1, I'.ok.exfs b hb, .inl hb, fun x c e => (I'.ok.exf b hb).2 x c e, fun p hp => absurd (show p ∈ ([] : List (Addr × Obj)) ++ [] from hp) (by simp)⟩
  have loop : codeAny (model X.prog X.w) X.A (.compLoop (.ListComp elt [⟨tg, iter, ifs, 0⟩] scope pos) 0 (.ref it) (.ref D) ce) (compPost (model X.prog X.w) X.A X.xe use Qf (.ref D) s3.heap.objs.size) s4 := by
    refine compLoop_any (fun n s' => ∃ i H', Inv (X.blk s3 H3 scope ce fp) [] (wipe σ (own.map (·.2))) H' s' ∧ tn i s'.heap ∧ (∀ b ∈ fp, H' b = none) ∧ W i n H') ?_ m0 ⟨0, H3, I4, st4, nfp, w0⟩
    rintro n s5 ⟨i, H5, I5, st5, n5, w5⟩
    rcases turn i n H5 w5 with ⟨stop, qq⟩ | ⟨go, Nx, hNx, step⟩
    · have td := T.done (X.blk s3 H3 scope ce fp) rfl rfl rfl hc i [] s5 _ H5 (fun _ _ => False) I5 (stat I5 n5) st5 stop
      refine thnF td fun r s6 ⟨hr, I6⟩ => ?_
      subst hr
      -- back in the def's context
      have I7 : Inv X pins σ H5 s6 := I3.call' (ch := fp) I6.os I6.base I6.hok I6.bare fun b hb => ⟨(f3 b hb).1.2.2.2.1, (f3 b hb).1.2.1, (f3 b hb).1.2.2.2.2.1, (f3 b hb).1.2.2.2.2.2⟩
      have nC : H5 s3.heap.objs.size = none := by
        have z : H5 ce.locals = none := I6.free
        rw [cL] at z
        exact z
      obtain ⟨m, hn, _⟩ := I6.loc
      have hn : s6.heap.Ns ce.locals m := hn
      rw [cL] at hn
      exact hRR D s3.heap.objs.size s6 m H5 I7 qq hn (I3.fpOk (Nat.le_refl _) nC)
    · have ti := T.item (X.blk s3 H3 scope ce fp) rfl rfl rfl hc i [] s5 _ H5 (fun _ _ => False) I5 (stat I5 n5) st5 go
      refine thnF ti fun r s6 ⟨u, hr, h6⟩ => ?_
      subst hr
      refine thnF h6 fun _ s7 ⟨x, H7, I7, r7, y7, st7, n7⟩ => ?_
      have I7' := I7.pinned (stat I7 n7) (T.obj _ _ st7)
      refine thnF (pg _ s7 _ H7 x u _ I7' r7 (step x H7 y7)) fun _ s8 ⟨σ8, H8, I8, hw8, q8⟩ => ?_
      refine thnF (pt _ s8 σ8 H8 _ I8 q8) fun b s9 ⟨H9, I9, q9⟩ => ?_
      -- the turn's end
      have fin : ∀ {s' : Shared} {H' : Hp}, Inv (X.blk s3 H3 scope ce fp) ([] ++ pinsAt fp s7.heap) σ8 H' s' → Nx H' → ∃ m, m < n ∧ ∃ i H', Inv (X.blk s3 H3 scope ce fp) [] (wipe σ (own.map (·.2))) H' s' ∧ tn i s'.heap ∧ (∀ b ∈ fp, H' b = none) ∧ W i m H' := fun {s' H'} I' nx => by
        obtain ⟨m', hm, w'⟩ := hNx H' nx
        have pin' : ∀ b ∈ fp, ∀ o, s7.heap.get? b = some o → s'.heap.get? b = some o ∧ H' b = none := fun b hb o e =>
          let z := I'.pin (b, o) (List.mem_append_right _ (List.mem_append_right _ (mem_pinsAt hb e)))
          ⟨z.1, z.2.1⟩
        have hl : (wipe σ (own.map (·.2))).length = σ8.length := by rw [← hw8, wipe_length]
        refine ⟨m', hm, i + 1, H', (I'.unpinned (pins := [])).weak hl (fun j v e => ?_), T.keep _ _ _ st7 fun b hb o e => (pin' b hb o e).1, fun b hb => ?_, w'⟩
        · rw [← hw8] at e
          exact (wipe_some e).1
        · obtain ⟨o, e, _⟩ := T.obj _ _ st7 b hb
          exact (pin' b hb o e).2
      cases b with
      | false =>
        simp only [Bool.false_eq_true, if_false] at q9 ⊢
        exact fin I9 q9
      | true =>
        simp only [if_true] at q9 ⊢
        refine thnF (pe _ s9 σ8 H9 _ I9 q9) fun z s10 ⟨yv, H10, I10, r10, acc, hD10, hz10, nx⟩ => ?_
        exact app_ok (X := X.blk s3 H3 scope ce fp) I10 hD10 hz10 r10 fun s11 I11 => fin I11 nx
  exact codeAny_compStart_list loop (T.self X.A 0 _ _ _ st4 loop)
/-- as a value -/
theorem pe_lc {elt tg iter : Expr} {ifs : List Expr} {scope : Scope} {own : List (Str × Nat)} {pos : Pos} {wi : TI} {g : TG} {tt : TT} {te : TE} (hc : X.calm = true) (hN : X.N.Nodup) (hi : PI X tg iter wi) (ok : BlkOk X.N X.env.scope scope own)
    (hg : ∀ (s : Shared) (H : Hp) (C : Addr) (cl : List (Str × Addr)) (fp : List Addr), PG (X.blk s H scope (compEnvC scope cl C X.env) fp) tg g) (ht : ∀ (s : Shared) (H : Hp) (C : Addr) (cl : List (Str × Addr)) (fp : List Addr), PTs (X.blk s H scope (compEnvC scope cl C X.env) fp) ifs tt)
    (he : ∀ (s : Shared) (H : Hp) (C : Addr) (cl : List (Str × Addr)) (fp : List Addr), PE (X.blk s H scope (compEnvC scope cl C X.env) fp) elt te) (hs : ∀ x, foldedSetIterable iter X.env x = pure x := by intro _; rfl) :
    PE X (.ListComp elt [⟨tg, iter, ifs, 0⟩] scope pos) (tLc wi g tt te (own.map (·.2))) := by
  intro pins s σ H Q I h
  rw [eval_ListComp]
  refine lc_core hc hN I hi ok hg ht he hs h fun D C s' m H' I' q hn f => ⟨m, hn, fun h'' sb => ?_⟩
  obtain ⟨f0, f1, f2, f3, f4, f5⟩ := f
  exact ⟨.ref D, H', I'.turned (t' := s'.toks) (fun b o hb e => (sb.2 b hb).trans e) f0 f1 f3 f4 f5, rfl, q⟩
end

/-! ### the forms one uses -/
/-- over a range: Pv by the turn and the heap (the new list at D within) -/
theorem lc_range {lo : Int} {n : Nat} {g : TG} {tt : TT} {te : TE} {vs : List Nat} {σ : St} {H1 : Hp} {D : Addr} {Qd : Hp → Prop} (Pv : Nat → Hp → Prop) (h0 : Pv 0 (upd H1 D (.lst [])))
    (hs : ∀ i H, i < n → Pv i H → g (.int (lo + i)) (wipe σ vs) H fun σ2 H2 => wipe σ2 vs = wipe σ vs ∧ tt σ2 H2 fun b H3 =>
      if b = true then te σ2 H3 fun y H4 => ∃ acc, H4 D = some (.lst acc) ∧ acc.length < sizeLine ∧ Pv (i + 1) (upd H4 D (.lst (acc ++ [y]))) else Pv (i + 1) H3) (hd : ∀ H, Pv n H → Qd H) :
    ∃ W : Nat → Nat → Hp → Prop, (∃ m, W 0 m (upd H1 D (.lst []))) ∧ ∀ i m H, W i m H →
      ((Itr lo n).stop i H ∧ Qd H) ∨ ((Itr lo n).go i H ∧ ∃ Nx : Hp → Prop, (∀ H', Nx H' → ∃ m', m' < m ∧ W (i + 1) m' H') ∧ ∀ x H', (Itr lo n).yld i H x H' → g x (wipe σ vs) H' fun σ2 H2 => wipe σ2 vs = wipe σ vs ∧ tt σ2 H2 fun b H3 =>
        if b = true then te σ2 H3 fun y H4 => ∃ acc, H4 D = some (.lst acc) ∧ acc.length < sizeLine ∧ Nx (upd H4 D (.lst (acc ++ [y]))) else Nx H3) := by
  refine ⟨fun i m H => m = n - i ∧ i ≤ n ∧ Pv i H, ⟨n, by simp, Nat.zero_le _, h0⟩, ?_⟩
  rintro i m H ⟨rfl, hi, p⟩
  by_cases hlt : i < n
  · refine .inr ⟨hlt, Pv (i + 1), fun H' p' => ⟨n - (i + 1), by omega, rfl, hlt, p'⟩, fun x H' y => ?_⟩
    obtain ⟨e, y⟩ := y
    subst e y
    exact hs i _ hlt p
  · have e : i = n := by omega
    subst e
    exact .inl ⟨Nat.le_refl _, hd H p⟩
/-- over a list that the block leaves as it is -/
theorem lc_list {K : PySem.W.Frag} {a : Addr} {xs : List V} {g : TG} {tt : TT} {te : TE} {vs : List Nat} {σ : St} {H1 : Hp} {D : Addr} {Qd : Hp → Prop} (Pv : Nat → Hp → Prop) (h0 : Pv 0 (upd H1 D (.lst []))) (hl : ∀ i H, i ≤ xs.length → Pv i H → SqL K H a xs)
    (hs : ∀ i x H, xs[i]? = some x → Pv i H → g x (wipe σ vs) H fun σ2 H2 => wipe σ2 vs = wipe σ vs ∧ tt σ2 H2 fun b H3 =>
      if b = true then te σ2 H3 fun y H4 => ∃ acc, H4 D = some (.lst acc) ∧ acc.length < sizeLine ∧ Pv (i + 1) (upd H4 D (.lst (acc ++ [y]))) else Pv (i + 1) H3) (hd : ∀ H, Pv xs.length H → Qd H) :
    ∃ W : Nat → Nat → Hp → Prop, (∃ m, W 0 m (upd H1 D (.lst []))) ∧ ∀ i m H, W i m H →
      ((Itl K a).stop i H ∧ Qd H) ∨ ((Itl K a).go i H ∧ ∃ Nx : Hp → Prop, (∀ H', Nx H' → ∃ m', m' < m ∧ W (i + 1) m' H') ∧ ∀ x H', (Itl K a).yld i H x H' → g x (wipe σ vs) H' fun σ2 H2 => wipe σ2 vs = wipe σ vs ∧ tt σ2 H2 fun b H3 =>
        if b = true then te σ2 H3 fun y H4 => ∃ acc, H4 D = some (.lst acc) ∧ acc.length < sizeLine ∧ Nx (upd H4 D (.lst (acc ++ [y]))) else Nx H3) := by
  refine ⟨fun i m H => m = xs.length - i ∧ i ≤ xs.length ∧ Pv i H, ⟨xs.length, by simp, Nat.zero_le _, h0⟩, ?_⟩
  rintro i m H ⟨rfl, hi, p⟩
  have q := hl i H hi p
  by_cases hlt : i < xs.length
  · refine .inr ⟨⟨xs, xs[i], q, by simp [hlt]⟩, Pv (i + 1), fun H' p' => ⟨xs.length - (i + 1), by omega, rfl, hlt, p'⟩, fun x H' y => ?_⟩
    obtain ⟨e, y⟩ := y
    subst e
    exact hs i x _ (y xs q) p
  · have e : i = xs.length := by omega
    subst e
    exact .inl ⟨⟨xs, q, Nat.le_refl _⟩, hd H p⟩
/-- over a tuple -/
theorem lc_tup {K : PySem.W.Frag} {a : Addr} {xs : List V} {g : TG} {tt : TT} {te : TE} {vs : List Nat} {σ : St} {H1 : Hp} {D : Addr} {Qd : Hp → Prop} (Pv : Nat → Hp → Prop) (h0 : Pv 0 (upd H1 D (.lst []))) (hl : ∀ i H, i ≤ xs.length → Pv i H → SqT K H a xs)
    (hs : ∀ i x H, xs[i]? = some x → Pv i H → g x (wipe σ vs) H fun σ2 H2 => wipe σ2 vs = wipe σ vs ∧ tt σ2 H2 fun b H3 =>
      if b = true then te σ2 H3 fun y H4 => ∃ acc, H4 D = some (.lst acc) ∧ acc.length < sizeLine ∧ Pv (i + 1) (upd H4 D (.lst (acc ++ [y]))) else Pv (i + 1) H3) (hd : ∀ H, Pv xs.length H → Qd H) :
    ∃ W : Nat → Nat → Hp → Prop, (∃ m, W 0 m (upd H1 D (.lst []))) ∧ ∀ i m H, W i m H →
      ((Itt K a).stop i H ∧ Qd H) ∨ ((Itt K a).go i H ∧ ∃ Nx : Hp → Prop, (∀ H', Nx H' → ∃ m', m' < m ∧ W (i + 1) m' H') ∧ ∀ x H', (Itt K a).yld i H x H' → g x (wipe σ vs) H' fun σ2 H2 => wipe σ2 vs = wipe σ vs ∧ tt σ2 H2 fun b H3 =>
        if b = true then te σ2 H3 fun y H4 => ∃ acc, H4 D = some (.lst acc) ∧ acc.length < sizeLine ∧ Nx (upd H4 D (.lst (acc ++ [y]))) else Nx H3) := by
  refine ⟨fun i m H => m = xs.length - i ∧ i ≤ xs.length ∧ Pv i H, ⟨xs.length, by simp, Nat.zero_le _, h0⟩, ?_⟩
  rintro i m H ⟨rfl, hi, p⟩
  have q := hl i H hi p
  by_cases hlt : i < xs.length
  · refine .inr ⟨⟨xs, xs[i], q, by simp [hlt]⟩, Pv (i + 1), fun H' p' => ⟨xs.length - (i + 1), by omega, rfl, hlt, p'⟩, fun x H' y => ?_⟩
    obtain ⟨e, y⟩ := y
    subst e
    exact hs i x _ (y xs q) p
  · have e : i = xs.length := by omega
    subst e
    exact .inl ⟨⟨xs, q, Nat.le_refl _⟩, hd H p⟩
def blkC (N : List Str) (sc scope : Scope) (own : List (Str × Nat)) : Bool :=
  (match scope.kind with | .function => true | _ => false) && (scope.names.all fun y => decide (scope.names.lookup y.1 = some y.2)) && (own.all fun p => decide (N[p.2]? = some p.1)) &&
    (scope.names.all fun y => match y.2 with
      | .free => (match sc.names.lookup y.1 with | some .cell => true | some .free => true | _ => false)
      | .local => decide (y.1 ∈ own.map (·.1)) || decide (y.1 ∉ N)
      | .cell => decide (y.1 ∈ own.map (·.1)) || decide (y.1 ∉ N)
      | _ => true)
theorem blkOk_by {N : List Str} {sc scope : Scope} {own : List (Str × Nat)} (h : blkC N sc scope own = true) : BlkOk N sc scope own := by
  unfold blkC at h
  simp only [Bool.and_eq_true, List.all_eq_true, decide_eq_true_eq] at h
  obtain ⟨⟨⟨h1, h2⟩, h3⟩, h4⟩ := h
  refine ⟨?_, h2, h3, fun y hy e => ?_, fun y hy e => ?_⟩
  · split at h1
    · assumption
    · cases h1
  · have q := h4 y hy
    simp only [e] at q
    split at q <;> first | exact .inl (by assumption) | exact .inr (by assumption) | cases q
  · have q := h4 y hy
    rcases e with e | e <;> (simp only [e, Bool.or_eq_true, decide_eq_true_eq] at q; exact q)
end L2

namespace L2
open PySem PySem.Spec PyProof.Rows

section
variable {prog : Program} {w : World} {A : Around} {R : Result → Shared → Prop} {s : Shared} {elt t0 i0 t1 i1 : Expr} {ifs0 ifs1 : List Expr} {scope : Scope} {pos : Pos} {it acc : Value} {env : Env}
end

section
variable {X : Cx}
end
end L2

namespace L2
open PySem PySem.Spec PyProof.Rows

section
variable {κ : Type} [DecidableEq κ]
def valV (kvs : List (κ × V)) (k : κ) : Option V := (kvs.find? fun kv => decide (kv.1 = k)).map (·.2)
/-- in its place, or at the end -/
def putK (kvs : List (κ × V)) (k : κ) (v : V) : List (κ × V) :=
  if (kvs.any fun kv => decide (kv.1 = k)) = true then kvs.map (fun kv => if kv.1 = k then (kv.1, v) else kv) else kvs ++ [(k, v)]
def dropK (kvs : List (κ × V)) (k : κ) : List (κ × V) := kvs.filter fun kv => decide (kv.1 ≠ k)

theorem valV_pos {p : κ × V} {r : List (κ × V)} {k : κ} (e : p.1 = k) : valV (p :: r) k = some p.2 := by simp [valV, List.find?_cons, e]
theorem valV_neg {p : κ × V} {r : List (κ × V)} {k : κ} (e : ¬ p.1 = k) : valV (p :: r) k = valV r k := by simp [valV, List.find?_cons, e]
theorem RelO.isSome_eq {o : Option V} {u : Option Value} (r : RelO o u) : o.isSome = u.isSome := by
  cases o with
  | none => cases u with
    | none => rfl
    | some _ => exact (show False from r).elim
  | some _ => cases u with
    | none => exact (show False from r).elim
    | some _ => rfl
theorem RelO.getD {o : Option V} {u : Option Value} {d : V} {d' : Value} (r : RelO o u) (rd : RelV d d') : RelV (o.getD d) (u.getD d') := by
  cases o with
  | none => cases u with
    | none => exact rd
    | some _ => exact (show False from r).elim
  | some _ => cases u with
    | none => exact (show False from r).elim
    | some _ => exact r

/-- raw tables of the same keys -/
theorem KV.val {kvs : List (κ × V)} {vs : List (κ × Value)} (r : KV kvs vs) (k : κ) : RelO (valV kvs k) (valueAt vs k) := by
  unfold KV at r
  induction r with
  | nil => exact True.intro
  | @cons p q ps qs h t ih =>
    obtain ⟨h1, h2⟩ := h
    by_cases e : p.1 = k
    · have e' : q.1 = k := h1.symm.trans e
      have b : valueAt (q :: qs) k = some q.2 := by simp [valueAt, List.find?_cons, e']
      rw [valV_pos e, b]; exact h2
    · have e' : ¬ q.1 = k := fun z => e (h1.trans z)
      have b : valueAt (q :: qs) k = valueAt qs k := by simp [valueAt, List.find?_cons, e']
      rw [valV_neg e, b]; exact ih
theorem KV.any {kvs : List (κ × V)} {vs : List (κ × Value)} (r : KV kvs vs) (k : κ) : (kvs.any fun kv => decide (kv.1 = k)) = vs.any fun kv => decide (kv.1 = k) := by
  unfold KV at r
  induction r with
  | nil => rfl
  | cons h t ih => rw [List.any_cons, List.any_cons, ih, h.1]
theorem KV.drop {kvs : List (κ × V)} {vs : List (κ × Value)} (r : KV kvs vs) (k : κ) : KV (dropK kvs k) (without vs k) := by
  unfold KV at r ⊢
  unfold dropK without
  induction r with
  | nil => exact .nil
  | @cons p q ps qs h t ih =>
    obtain ⟨h1, h2⟩ := h
    rw [List.filter_cons, List.filter_cons]
    by_cases e : p.1 = k
    · have a : ¬ decide (p.1 ≠ k) = true := by simp [e]
      have b : ¬ decide (q.1 ≠ k) = true := by simp [h1.symm.trans e]
      rw [if_neg a, if_neg b]; exact ih
    · have e' : ¬ q.1 = k := fun z => e (h1.trans z)
      have a : decide (p.1 ≠ k) = true := by simp [e]
      have b : decide (q.1 ≠ k) = true := by simp [e']
      rw [if_pos a, if_pos b]; exact .cons ⟨h1, h2⟩ ih
theorem KV.keys {kvs : List (κ × V)} {vs : List (κ × Value)} (r : KV kvs vs) : kvs.map (·.1) = vs.map (·.1) := by
  unfold KV at r
  induction r with
  | nil => rfl
  | cons h t ih => rw [List.map_cons, List.map_cons, ih, h.1]
theorem KV.length {kvs : List (κ × V)} {vs : List (κ × Value)} (r : KV kvs vs) : kvs.length = vs.length := Paired.length r
end


/-! ### a tracked dict, its keys ints and texts or tuples of these -/
theorem kV_is {P : Program} {w : World} {k : Key} {u : Value} (r : RelV (kV k) u) : (mixKind P w).is k u = true := by
  cases k with
  | inl i => obtain ⟨t, e⟩ := (show ∃ t, u = Value.int i t from r); subst e; exact mixKind_int P w i t
  | inr x => obtain ⟨t, e⟩ := (show ∃ t, u = Value.str x t from r); subst e; exact mixKind_str P w x t
/-- raw entries of a dict with tuple keys -/
abbrev KT (H : Hp) : List (List Key × V) → List (List Key × Addr × Value) → Prop := Paired fun p q => p.1 = q.1 ∧ H q.2.1 = some (.tup (p.1.map kV)) ∧ RelV p.2 q.2.2
theorem KT.val {H : Hp} {kvs : List (List Key × V)} {xs : List (List Key × Addr × Value)} (r : KT H kvs xs) (k : List Key) : RelO (valV kvs k) ((atKey xs k).map (·.2)) := by
  induction r with
  | nil => exact True.intro
  | @cons p q ps qs h t ih =>
    obtain ⟨h1, _, h2⟩ := h
    by_cases e : p.1 = k
    · have e' : q.1 = k := h1.symm.trans e
      have b : atKey (q :: qs) k = some q.2 := by simp [atKey, List.find?_cons, e']
      rw [valV_pos e, b]; exact h2
    · have e' : ¬ q.1 = k := fun z => e (h1.trans z)
      have b : atKey (q :: qs) k = atKey qs k := by simp [atKey, List.find?_cons, e']
      rw [valV_neg e, b]; exact ih
theorem KT.keeps {H H' : Hp} {kvs : List (List Key × V)} {xs : List (List Key × Addr × Value)} (r : KT H kvs xs) (ht : ∀ b ys, H b = some (.tup ys) → H' b = some (.tup ys)) : KT H' kvs xs :=
  Paired.mapP r fun _ _ z => ⟨z.1, ht _ _ z.2.1, z.2.2⟩

section
variable {P : Program} {w : World} {H : Hp} {h : Heap} {a : Addr}
end

/-- what the dict at a holds at the key y -/
def DGet (H : Hp) (a : Addr) (y : V) (r : Option V) : Prop :=
  (∃ kvs k, Rd H a (.dK kvs) ∧ y = kV k ∧ r = valV kvs k) ∨ ∃ kvs k b, Rd H a (.dT kvs) ∧ y = .ref b ∧ H b = some (.tup (k.map kV)) ∧ r = valV kvs k
/-- the heap behind a[y] = v -/
def DPut (H : Hp) (a : Addr) (y v : V) (H' : Hp) : Prop :=
  (∃ kvs k, H a = some (.dK kvs) ∧ y = kV k ∧ kvs.length < sizeLine ∧ H' = upd H a (.dK (putK kvs k v))) ∨
  ∃ kvs k b, H a = some (.dT kvs) ∧ y = .ref b ∧ H b = some (.tup (k.map kV)) ∧ kvs.length < sizeLine ∧ H' = upd H a (.dT (putK kvs k v))
theorem DGet.k {H : Hp} {a : Addr} {kvs : List (Key × V)} {k : Key} (e : H a = some (.dK kvs)) : DGet H a (kV k) (valV kvs k) := .inl ⟨kvs, k, .inl e, rfl, rfl⟩
theorem DGet.t {H : Hp} {a b : Addr} {kvs : List (List Key × V)} {k : List Key} (e : H a = some (.dT kvs)) (eb : H b = some (.tup (k.map kV))) : DGet H a (.ref b) (valV kvs k) := .inr ⟨kvs, k, b, .inl e, rfl, eb, rfl⟩
theorem DPut.k {H : Hp} {a : Addr} {kvs : List (Key × V)} {k : Key} {v : V} (e : H a = some (.dK kvs)) (hl : kvs.length < sizeLine) : DPut H a (kV k) v (upd H a (.dK (putK kvs k v))) := .inl ⟨kvs, k, e, rfl, hl, rfl⟩
theorem DPut.t {H : Hp} {a b : Addr} {kvs : List (List Key × V)} {k : List Key} {v : V} (e : H a = some (.dT kvs)) (eb : H b = some (.tup (k.map kV))) (hl : kvs.length < sizeLine) :
    DPut H a (.ref b) v (upd H a (.dT (putK kvs k v))) := .inr ⟨kvs, k, b, e, rfl, eb, hl, rfl⟩


section
variable {X : Cx} {pins : List (Addr × Obj)} {σ : St} {H : Hp} {s : Shared} {a : Addr} {y v : V} {u r : Value} {o : Option V} {A : Around} {E : Value → Shared → Prop}

theorem Inv.big (I : Inv X pins σ H s) : sysModules < s.heap.objs.size := by
  have h : mainGlobals < s.heap.objs.size := (I.mod.glob.keeps I.bk).lt
  exact Nat.lt_trans (by decide) h

end

section
variable {X : Cx} {pins : List (Addr × Obj)} {σ : St} {H : Hp} {s : Shared} {a : Addr} {kvs : List (Key × V)} {k : Key} {u : Value} {A : Around} {E : Value → Shared → Prop}
end


/-! ### readings and rules -/
/-- the element of a subscription, not a slice -/
def NoSl (i : Expr) : Prop := ∀ ov iv, subscripted i false ov iv = operate [ov, iv] (getItem ov iv)
theorem subD_of {prog : Program} {w : World} {A : Around} {E : Value → Shared → Prop} {s : Shared} {env : Env} {value slice : Expr} {pos : Pos} {T id : String} {Q : Value → Shared → Prop}
    (hl : typeLookup (.type T) "__getitem__" = pure (some (.builtin id))) (hs : NoSl slice)
    (h : wpAny (model prog w) A (eval value env) (fun o s₁ => wpAny (model prog w) A (eval slice env) (fun i s₂ => s₂.TypeIs o T ∧ wpAny (model prog w) A (getItem o i) Q E s₂) E s₁) E s) :
    wpAny (model prog w) A (eval (.Subscript value slice pos) env) Q E s := by
  refine Subscript_ (wpAny_mono h (fun o s₁ h₁ => wpAny_mono h₁ (fun i s₂ h₂ => ?_) fun _ _ x => x) fun _ _ x => x)
  obtain ⟨hT, h₂⟩ := h₂
  unfold subscriptTail
  refine wpAny_bind ?_
  rw [getitemInPython_of_ne hT.not_modules]
  refine wpAny_bind (wpAny_specialOf hT hl ?_)
  have fin : wpAny (model prog w) A (subscripted slice false o i) (fun r s₃ => wpAny (model prog w) A (letTemporaryGo value o r >>= fun _ => pure r) Q E s₃) E s₂ := by
    rw [hs o i]
    exact wpAny_operating (wpAny_mono h₂ (fun r s₃ h₃ => wpAny_bind (wpAny_letTemporaryGo (wpAny_pure h₃))) fun _ _ x => x)
  first
    | exact wpAny_pure (wpAny_bind fin)
    | exact wpAny_bind (wpAny_pure (wpAny_bind fin))
    | exact wpAny_bind fin

section
variable {X : Cx} {o i e value : Expr} {pos pos' tpos : Pos} {td ty tv : TE}
end


section
variable {X : Cx} {pos : Pos}
end

structure M2 (X : Cx) (o : Expr) (m : Str) (apos : Pos) (e f : Expr) (cpos : Pos) : Prop where
  base : attributeBase o m X.env (eval o X.env) = eval o X.env
  few : ((backTo cpos (starEach [e, f] X.env)).all (fun x => !x.1) && (backToKw cpos (keywordEach [] X.env)).all (fun x => x.1.isSome)
    && decide (([e, f] : List Expr).length + ([] : List Keyword).length + (if ([] : List Keyword).isEmpty then 0 else 1) < 30)) = true
  line : (apos.endLine == cpos.line) = true
  trees : backTo cpos (starEach [e, f] X.env) = [(false, eval e X.env), (false, eval f X.env)]

section
variable {X : Cx} {pins : List (Addr × Obj)} {σ : St} {H : Hp} {s : Shared} {a : Addr} {y d : V} {u r : Value} {o : Option V} {A : Around} {E : Value → Shared → Prop}
end

section
variable {X : Cx} {o e f : Expr} {apos cpos : Pos} {td ty tx : TE}
end

section
variable {X : Cx} {pins : List (Addr × Obj)} {σ : St} {H : Hp} {s : Shared} {a : Addr} {kvs : List (Key × V)} {A : Around} {E : Value → Shared → Prop}
end


section
variable {X : Cx} {pins : List (Addr × Obj)} {σ : St} {H : Hp} {s : Shared} {a : Addr} {y : V} {u : Value} {A : Around} {E : Value → Shared → Prop}
end
end L2

namespace L2
open PySem PySem.Spec PyProof.Rows

section
variable {prog : Program} {w : World} {A : Around} {E : Value → Shared → Prop}
end

section
variable {X : Cx}
end
end L2

namespace L2
open PySem PySem.Spec PyProof.Rows

theorem boot_reversed5 : bootBuiltins "reversed" = some (.type "reversed") := by decide +kernel

section
variable {X : Cx} {pins : List (Addr × Obj)} {σ : St} {H : Hp} {s : Shared} {h' : Heap}
/-- several records of ours have turned -/
theorem Inv.turnedL {t' : Nat} {ch : List Addr} (I : Inv X pins σ H s) (k : ∀ b o, b ∉ ch → s.heap.get? b = some o → h'.get? b = some o) (hf : ∀ b ∈ ch, FpOk X pins H b) : Inv X pins σ H { s with heap := h', toks := t' } := by
  have nit : ∀ b u, H b = some u → b ∉ ch := fun b u e z => by
    have q := (hf b z).1
    rw [q] at e; cases e
  refine I.step (g' := s.gens) (d' := s.drawn) (ch := ch) (fun b hb => ⟨(hf b hb).2.2.2.1, (hf b hb).2.1, (hf b hb).2.2.2.2.1, (hf b hb).2.2.2.2.2⟩) (fun b o _ _ hc e _ => k b o hc e) (fun b o _ _ hc e _ => ⟨o.slots, k b o hc e⟩)
    (fun _ _ _ _ n => n) (fun b o hc e => ⟨o, k b o hc e⟩) (fun _ _ e => e) (fun _ _ _ e => e) (fun b ps e => ⟨#[], by rw [e]; simp⟩) (fun m hm => ?_) (fun b u e => ?_) I.bare
  · obtain ⟨o, es, ep, ho, r⟩ := hm
    exact ⟨o, es, ep, k _ o (fun z => (hf _ z).2.1 rfl) ho, r⟩
  · refine (I.hok b u e).stay (fun c v hc q => k c v ?_ q) (fun _ q => q) fun _ _ q => q
    rcases hc with z | z
    · rw [z]; exact nit b u e
    · exact nit c _ z
/-- .. and one new object is laid -/
theorem Inv.turnedNew {t' : Nat} {ch : List Addr} {T : Addr} {ob : HO} (I : Inv X pins σ H s) (k : ∀ b o, b ∉ ch → s.heap.get? b = some o → h'.get? b = some o) (hf : ∀ b ∈ ch, FpOk X pins H b) (hT : s.heap.objs.size ≤ T)
    (new : ObjOk X.prog X.w (upd H T ob) h' T ob) : Inv X pins σ (upd H T ob) { s with heap := h', toks := t' } := by
  have hn : H T = none := I.hok.fresh hT
  have nit : ∀ b u, H b = some u → b ∉ ch := fun b u e z => by
    have q := (hf b z).1
    rw [q] at e; cases e
  refine I.step (g' := s.gens) (d' := s.drawn) (ch := ch) (fun b hb => ⟨(hf b hb).2.2.2.1, (hf b hb).2.1, (hf b hb).2.2.2.2.1, (hf b hb).2.2.2.2.2⟩) (fun b o _ _ hc e _ => k b o hc e) (fun b o _ _ hc e _ => ⟨o.slots, k b o hc e⟩)
    (fun b o _ e n => ?_) (fun b o hc e => ⟨o, k b o hc e⟩) (fun b xs e => ?_) (fun b o u e => ?_) (fun b ps e => ⟨#[], ?_⟩) (fun m hm => ?_) (fun b u e => ?_) I.bare
  · rw [upd_ne (Nat.ne_of_lt (Nat.lt_of_lt_of_le (Heap.lt_size e) hT))]; exact n
  · rw [upd_ne (ne_of_none e hn)]; exact e
  · rw [upd_ne (ne_of_none e hn)]; exact e
  · rw [upd_ne (ne_of_none e hn), e]; simp
  · obtain ⟨o, es, ep, ho, r⟩ := hm
    exact ⟨o, es, ep, k _ o (fun z => (hf _ z).2.1 rfl) ho, r⟩
  · by_cases hb : b = T
    · subst hb
      rw [upd_same] at e
      cases e
      exact new
    · rw [upd_ne hb] at e
      refine (I.hok b u e).stay (fun c v hc q => k c v ?_ q) (fun c q => by rw [upd_ne (ne_of_none q hn)]; exact q) fun c xs q => by rw [upd_ne (ne_of_none q hn)]; exact q
      rcases hc with z | z
      · rw [z]; exact nit b u e
      · exact nit c _ z

end
section
variable {X : Cx}
/-! ### one iterator just laid -/
theorem pi_one {tg : Expr} {pins : List (Addr × Obj)} {σ : St} {H : Hp} {s : Shared} {R : It → Hp → Prop} {J : It} {tn : Nat → Heap → Prop} {tk : Nat} (I : Inv X pins σ H s) (o : Obj)
    (T : Turn X.prog X.w X.K tg J [s.heap.objs.size] s.heap.objs.size tn) (st : tn 0 (s.heap.push o)) (q : R J H) : PIE X pins σ tg R (.ref s.heap.objs.size) { s with heap := s.heap.push o, toks := tk } := by
  refine ⟨s.heap.objs.size, [s.heap.objs.size], tn, J, H, rfl, I.kept fun b ob e => Heap.get?_push_of_some _ e, T, st, fun b hb => ?_, q⟩
  have e : b = s.heap.objs.size := by simpa using hb
  subst e
  exact I.fpOk (Nat.le_refl _) (I.hok.fresh (Nat.le_refl _))
end

/-- range(i, j, c): small bounds, n items -/
def RgC (i j c : Int) (n : Nat) : Prop := c ≠ 0 ∧ c.natAbs < 1073741824 ∧ Builtin.Range.small i j c = true ∧ Builtin.Range.rangeSize i j c = n
theorem RgC.neg {i j : Int} (ha : -(2 ^ 62) ≤ i) (ha' : i < 2 ^ 62) (hb : -(2 ^ 62) ≤ j) (hb' : j < 2 ^ 62) : RgC i j (-1) (i - j).toNat :=
  ⟨by decide, by decide, PySem.W.small_down ha ha' hb hb', PySem.W.rangeSize_downNat i j⟩
section
variable {X : Cx} {tg : Expr}
end
section
variable {X : Cx} {tg : Expr}
end

/-! ### a str -/
def Its (x : Str) : It := ⟨fun i _ => i < x.cps.size, fun i H v H' => H' = H ∧ ∃ c, x.cps[i]? = some c ∧ v = .str ⟨#[c]⟩, fun i _ => x.cps.size ≤ i⟩
section
variable {prog : Program} {w : World} {A : Around} {E : Value → Shared → Prop} {s : Shared}
end

section
variable {X : Cx} {pins : List (Addr × Obj)} {σ : St} {H : Hp} {s : Shared} {d : Addr} {o : Obj}
end

section
variable {P : Program} {w : World} {K : PySem.W.Frag} {tg : Expr} {d : Addr} {o : Obj} {es : Array DictEntry} {ep : Nat}
end

section
variable {X : Cx} {tg e : Expr} {td : TE} {apos cpos : Pos}
end

/-! ### zip(list, list) -/
theorem boot_zip5 : bootBuiltins "zip" = some (.type "zip") := by decide +kernel
/-- the lists at a and b as they stand at each turn, the items in new pairs -/
def Itz (K : PySem.W.Frag) (a b : Addr) : It :=
  ⟨fun i H => ∃ (xs ys : List V) (x y : V), SqL K H a xs ∧ SqL K H b ys ∧ xs[i]? = some x ∧ ys[i]? = some y,
    fun i H v H' => ∃ T x y, v = .ref T ∧ H T = none ∧ H' = upd H T (.tup [x, y]) ∧ (∀ xs, SqL K H a xs → xs[i]? = some x) ∧ ∀ ys, SqL K H b ys → ys[i]? = some y,
    fun i H => ∃ xs ys : List V, SqL K H a xs ∧ SqL K H b ys ∧ (xs.length ≤ i ∨ ys.length ≤ i)⟩
theorem turn_zip {P : Program} {w : World} {K : PySem.W.Frag} {elts : List Expr} {kk : Nat} {tpos : Pos} {a b z TI TO i1 i2 : Addr} (D : ZipApart z TI TO i1 i2 a b) :
    Turn P w K (.Tuple elts kk tpos) (Itz K a b) [z, TI, TO, i1, i2] z (fun i h => IsZip h z TI TO .none ∧ IsPair h TI (.ref i1) (.ref i2) ∧ (∃ x y, IsPair h TO x y) ∧ h.IsListIter i1 a i ∧ h.IsListIter i2 b i) where
  mem := by simp
  obj := fun i h st c hc => by
    obtain ⟨hz, hTI, ⟨x, y, hTO⟩, ⟨o1, e1, _, d1⟩, ⟨o2, e2, _, d2⟩⟩ := st
    have e' : c = z ∨ c = TI ∨ c = TO ∨ c = i1 ∨ c = i2 := by simpa using hc
    rcases e' with q | q | q | q | q
    · rw [q]; exact ⟨_, hz, fun v q => nomatch q⟩
    · rw [q]; exact ⟨_, hTI, fun v q => nomatch q⟩
    · rw [q]; exact ⟨_, hTO, fun v q => nomatch q⟩
    · rw [q]; exact ⟨o1, e1, fun v q => by rw [d1] at q; cases q⟩
    · rw [q]; exact ⟨o2, e2, fun v q => by rw [d2] at q; cases q⟩
  keep := fun i h h' st k => by
    obtain ⟨hz, hTI, ⟨x, y, hTO⟩, h1, h2⟩ := st
    exact ⟨k z (by simp) _ hz, k TI (by simp) _ hTI, ⟨x, y, k TO (by simp) _ hTO⟩, h1.at fun o q => k i1 (by simp) o q, h2.at fun o q => k i2 (by simp) o q⟩
  item := by
    intro X hP hw hK hc i pins s σ H E I hf st hg
    subst hP hw hK
    obtain ⟨hz, hTI, ⟨x0, y0, hTO⟩, h1, h2⟩ := st
    obtain ⟨xs, ys, x, y, hqx, hqy, hx, hy⟩ := hg
    obtain ⟨its, rv, p, _⟩ := I.list hqx
    obtain ⟨its2, rv2, p2, _⟩ := I.list hqy
    obtain ⟨u, hu, ru⟩ := rv.get hx
    obtain ⟨u2, hu2, ru2⟩ := rv2.get hy
    have hzl : z < s.heap.objs.size := Heap.lt_size hz
    refine wpAny_pyNext_zip_item D hz hTI hTO h1 h2 p.isList p2.isList (x := u) (y := u2) (by simpa using hu) (by simpa using hu2) fun h' z' TO' h1' h2' hT hsz hk => ?_
    refine ⟨_, rfl, wpAny_letOwnedTupleGo_zip (s := { s with heap := h' }) z' fun h'' z'' sb => ?_⟩
    have hT2 : h''.get? s.heap.objs.size = some { cls := .type "tuple", data := .seq #[u, u2] } := (sb.2 _ (Nat.ne_of_gt hzl)).trans hT
    have new : ObjOk X.prog X.w (upd H s.heap.objs.size (.tup [x, y])) h'' s.heap.objs.size (.tup [x, y]) :=
      ⟨by show 2 ≤ sizeLine; decide, [u, u2], .cons ru (.cons ru2 .nil), ⟨_, hT2, rfl, _, rfl⟩⟩
    have I1 : Inv X pins σ (upd H s.heap.objs.size (.tup [x, y])) { s with heap := h'' } :=
      I.turnedNew (t' := s.toks) (ch := [z, TI, TO, i1, i2]) (fun c o hb q => (sb.2 c (fun q' => hb (by simp [q']))).trans (hk c o (fun q' => hb (by simp [q'])) (fun q' => hb (by simp [q'])) (fun q' => hb (by simp [q'])) (fun q' => hb (by simp [q'])) q)) hf (Nat.le_refl _) new
    refine ⟨.ref s.heap.objs.size, _, I1, rfl, ⟨_, x, y, rfl, I.hok.fresh (Nat.le_refl _), rfl, fun l hl => by rw [I.list_inj hl hqx]; exact hx, fun l hl => by rw [I.list_inj hl hqy]; exact hy⟩, ⟨z'', ?_, ⟨u, u2, ?_⟩, ?_, ?_⟩, fun c hcm => ?_⟩
    · exact (sb.2 _ D.TIz).trans (hk _ _ D.TIz D.TITO D.TIi1 D.TIi2 hTI)
    · exact (sb.2 _ D.TOz).trans TO'
    · exact h1'.at fun o q => (sb.2 _ D.i1z).trans q
    · exact h2'.at fun o q => (sb.2 _ D.i2z).trans q
    · have hlt : c < s.heap.objs.size := by
        have e' : c = z ∨ c = TI ∨ c = TO ∨ c = i1 ∨ c = i2 := by simpa using hcm
        rcases e' with q | q | q | q | q
        · rw [q]; exact hzl
        · rw [q]; exact Heap.lt_size hTI
        · rw [q]; exact Heap.lt_size hTO
        · rw [q]; obtain ⟨_, e1, _⟩ := h1; exact Heap.lt_size e1
        · rw [q]; obtain ⟨_, e2, _⟩ := h2; exact Heap.lt_size e2
      rw [upd_ne (Nat.ne_of_lt hlt)]
      exact (hf c hcm).1
  done := by
    intro X hP hw hK hc i pins s σ H E I hf st hg
    subst hP hw hK
    obtain ⟨hz, hTI, ⟨x0, y0, hTO⟩, h1, h2⟩ := st
    obtain ⟨xs, ys, hqx, hqy, hend⟩ := hg
    obtain ⟨its, rv, p, _⟩ := I.list hqx
    obtain ⟨its2, rv2, p2, _⟩ := I.list hqy
    have l1 := rv.length
    have l2 := rv2.length
    have he : its.toArray[i]? = none ∨ its2.toArray[i]? = none := by
      rcases hend with q | q
      · exact .inl (by simp; omega)
      · exact .inr (by simp; omega)
    exact wpAny_pyNext_zip_end (I.ok.hd hc) D hz hTI hTO h1 h2 p.isList p2.isList he fun h' hk => ⟨rfl, I.turnedL (t' := s.toks) (ch := [z, TI, TO, i1, i2]) (fun c o hb q =>
      hk c o (fun q' => hb (by simp [q'])) (fun q' => hb (by simp [q'])) (fun q' => hb (by simp [q'])) (fun q' => hb (by simp [q'])) q) hf⟩
  self := fun A i s Q E st h => wpAny_pyIter_zip st.1 h
def iZip (K : PySem.W.Frag) (ta : TA) : TI := fun σ H R => ta σ H fun vs H1 => ∃ a b xs ys, vs = [.ref a, .ref b] ∧ SqL K H1 a xs ∧ SqL K H1 b ys ∧ R (Itz K a b) H1
theorem pi_zip {X : Cx} {e e2 : Expr} {ta : TA} {p pos tpos : Pos} {elts : List Expr} {kk : Nat} (hg : Gl X "zip") (hm : X.mg "zip" = none) (ha : PA X [e, e2] ta)
    (hs : starEach [e, e2] X.env = (false, eval e X.env) :: starEach [e2] X.env := by rfl) (hpl : (backTo pos (starEach [e2] X.env)).any (·.1) = false := by rfl) :
    PI X (.Tuple elts kk tpos) (.Call (.Name "zip" p) [e, e2] [] pos) (iZip X.K ta) := by
  intro pins s σ H R I h
  refine Call_ (ld_blt I hg hm boot_zip5 (PyProof.Rows.callWith_type1 (thn (ha pos pins s σ H _ I h) fun us s1 ⟨vs, H1, I1, r1, q1⟩ => ?_) hs hpl))
  obtain ⟨a, b, xs, ys, ex, hqx, hqy, q⟩ := q1
  subst ex
  cases r1 with
  | cons r rr =>
    cases rr with
    | cons r' rr =>
      cases rr
      cases r
      cases r'
      obtain ⟨its, rv, p1, _⟩ := I1.list hqx
      obtain ⟨its2, rv2, p2, _⟩ := I1.list hqy
      have la : a < s1.heap.objs.size := p1.lt
      have lb : b < s1.heap.objs.size := p2.lt
      refine call_zip_2 p1.isList p2.isList fun h' hz hTI hTO h1 h2 hsz hk => wpAny_pyIter_zip hz ?_
      have I2 : Inv X pins σ H1 { s1 with heap := h' } := I1.kept (t' := s1.toks) hk
      refine ⟨s1.heap.objs.size + 4, [s1.heap.objs.size + 4, s1.heap.objs.size + 2, s1.heap.objs.size + 3, s1.heap.objs.size, s1.heap.objs.size + 1], _, _, H1, rfl, I2, turn_zip (PySem.W.ktu_apart s1.heap.objs.size a b la lb), ⟨hz, hTI, ⟨_, _, hTO⟩, h1, h2⟩, fun c hcm => ?_, q⟩
      have e' : c = s1.heap.objs.size + 4 ∨ c = s1.heap.objs.size + 2 ∨ c = s1.heap.objs.size + 3 ∨ c = s1.heap.objs.size ∨ c = s1.heap.objs.size + 1 := by simpa using hcm
      have hle : s1.heap.objs.size ≤ c := by
        rcases e' with z | z | z | z | z
        · rw [z]; exact Nat.le_add_right _ _
        · rw [z]; exact Nat.le_add_right _ _
        · rw [z]; exact Nat.le_add_right _ _
        · rw [z]; exact Nat.le_refl _
        · rw [z]; exact Nat.le_add_right _ _
      exact I1.fpOk hle (I1.hok.fresh hle)
end L2

section 
namespace Bits
open PySem PyProof.Rows

end Bits
end 

section 
namespace TL
open PySem PySem.Builtin PySem.Builtin.Str PySem.StrLaws

abbrev tl (x : Str) : List Nat := x.cps.toList
/-! ### the list functions -/
/-- S stands at the head of l -/
def pre (S l : List Nat) : Bool := l.take S.length == S
/-- what stands before the first S, and behind it -/
def par (S : List Nat) : List Nat → List Nat → Option (List Nat × List Nat)
  | _, [] => none
  | acc, c :: r => if pre S (c :: r) = true then some (acc, (c :: r).drop S.length) else par S (acc ++ [c]) r

end TL
end 

namespace L2
open PySem PySem.Spec PyProof.Rows

section
variable {X : Cx} {pins : List (Addr × Obj)} {σ : St} {H : Hp} {s : Shared} {Q : VK}
end

section
variable {X : Cx}

/-! ### of a text and a text -/
theorem mt1 {id : String} {g : Str → Str → V} (rule : ∀ (a b : Str) (t u : Tok) (s : Shared) (Q : Value → Shared → Prop), (∀ (v : Value) (k : Nat), RelV (g a b) v → Q v { s with toks := k }) →
    wpAny (model X.prog X.w) X.A (call (.builtin id) [.str a t, .str b u]) Q X.xe s) : MtR X id (fun x xs H Q => ∃ a b, x = .str a ∧ xs = [.str b] ∧ Q (g a b) H) := by
  intro pins s σ H x xs v us Q I rx rs h
  obtain ⟨a, b, rfl, rfl, h⟩ := h
  obtain ⟨t, rfl⟩ := rx
  cases rs with
  | cons r1 rs =>
    cases rs
    obtain ⟨u, rfl⟩ := r1
    exact rule a b t u s _ fun v k r => ⟨g a b, H, I.tok k, r, h⟩
theorem mt_count : MtR X "str.count" (fun x xs H Q => ∃ a b, x = .str a ∧ xs = [.str b] ∧ Q (.int (Txt.count a b)) H) :=
  mt1 (g := fun a b => .int (Txt.count a b)) fun _ _ _ _ s _ h => PySem.SC.count (h _ (s.toks + 1) ⟨_, rfl⟩)

end

section
variable {X : Cx} {o e : Expr} {to te : TE}
end
end L2

namespace L2
open PySem PySem.Spec PyProof.Rows

section
variable {X : Cx}
end

/-! ### slices of a text -/
theorem IsPart.raw {v : Value} {o : Option Int} (p : IsPart v o) : ∃ l : Option (Int × Tok), v = partValue l ∧ l.map (·.1) = o := by
  cases p with
  | none => exact ⟨none, rfl, rfl⟩
  | int i t => exact ⟨some (i, t), rfl, rfl⟩

end L2

namespace Att
open PySem PySem.W PySem.Calls PyProof.Rows

/-! ### the script -/
theorem ints_of_wellAll {P : Params} {h : Heap} : ∀ (ns : List Int) (vs : List Value), WellAll P h vs (ns.map WData.int) → IntsAre vs ns := by
  intro ns
  induction ns with
  | nil =>
    intro vs w
    rw [List.map_nil] at w
    cases w
    exact .nil
  | cons n ns ih =>
    intro vs w
    rw [List.map_cons] at w
    cases w with
    | cons a b =>
      cases a
      exact .cons _ _ (ih _ b)

theorem script_of {l : OpenLaw} {n : Nat} (hn : l.most = some n) {P : Params} {h : Heap} {args : List WData} {vals : List Value}
    (hpre : l.row.toRowW.claim.pre args = true) (hwl : WellAll P h vals args) :
    ∃ a vs ns, vals = [Value.ref a] ∧ args = [WData.list (ns.map WData.int)] ∧ h.get? a = some { cls := .type "list", data := .seq vs.toArray } ∧ IntsAre vs ns ∧ ns.length ≤ n := by
  have hsh : WShape.hasAll [] args [.list .int] = true := (pre_splitW hpre).1
  have hc : l.pre.holds [] { args := args } = true := (pre_splitW hpre).2
  obtain ⟨d, r, rfl, h1, h2⟩ := hasAllW_cons hsh
  obtain rfl := hasAllW_nil h2
  obtain ⟨xs, rfl, h3⟩ := hasW_list h1
  obtain ⟨ns, rfl⟩ := items_int h3
  have hlen : ns.length ≤ n := by
    unfold OpenLaw.pre at hc
    have h4 : (WTm.not (.lt (.lit (.int (n : Int))) (.len (.arg 0)))).holds [] { args := [.list (ns.map .int)] } = true := by
      have h4 := (holds_andW hc).1
      rw [hn] at h4
      exact h4
    have h5 := condW_of h4 (w_not (w_lt w_lit (w_len_list (w_arg rfl))))
    rw [List.length_map] at h5
    refine Nat.le_of_not_lt fun q => ?_
    have q' : (n : Int) < ((ns.length : Nat) : Int) := by omega
    first
      | (rw [decide_eq_true q'] at h5; exact absurd h5 (by decide))
      | (simp at h5; omega)
  cases hwl with
  | cons w1 w2 =>
    cases w2
    cases w1 with
    | list ho hall => exact ⟨_, _, ns, rfl, rfl, ho, ints_of_wellAll ns _ hall, hlen⟩

theorem post_true (l : OpenLaw) (args : List WData) : l.row.toRowW.claim.post args (.bool true) args = true :=
  postW_of (r := l.row.toRowW) (X := (true == true))
    (show WShape.has [] (.bool true) .bool = true by first | rfl | decide | simp [WShape.has, WShape.arms, WShape.armsAll])
    (show (WTm.eq .res (.lit (.bool true))).value [] { args := args, res := some (.bool true), after := args } = some (.bool (true == true)) from w_eq_bool (w_res rfl) w_lit) rfl

/-- the same from a codeAny of the CALL (for a layer whose function contracts speak of calls) -/
theorem attach_call {l : OpenLaw} {n : Nat} {q : Program} {loose : List Str} {XP : (Str → Option Value) → Heap → Prop} {YP : World → Heap → Prop} {d : DefRec}
    (hn : l.most = some n) (hdf : d.params.defaults = [])
    (call : ∀ (w : World) (s₀ s₁ : Shared) (mg mb : Str → Option Value) (fa : Addr) (o : Obj) (pm cd doc : Value) (a : Addr) (vs : List Value) (ns : List Int),
      Ground q loose [] XP w s₀ mg mb s₁.heap → YP w s₁.heap →
      s₁.heap.get? fa = some o → o.data = .func (docDef d.name d.params d.body d.scope pm cd doc) → s₁.heap.CodeRec cd d.name → mg d.name = some (.ref fa) →
      s₁.heap.get? a = some { cls := .type "list", data := .seq vs.toArray } → IntsAre vs ns → ns.length ≤ n → s₁.gens = #[] →
      codeAny (model l.prog w) callerA (.call (.ref fa) ⟨[.ref a], []⟩) (fun r s' => r = .ok (.ret (.bool true)) ∧ OldK s₁.heap s'.heap ∧ s'.os = s₁.os ∧ AllBare s'.gens) s₁) :
    WalkO q loose XP YP l.row.toRowW d [] (fun f vs => PySem.call f vs) := by
  intro w s₀ s₁ mg mb G Y fa o pm cd doc dV kV ho hd hcd hD hmg hg args vals as hpre hlay hrd hwl hlo
  obtain rfl : dV = .none := Dflts.none hD hdf
  obtain rfl : kV = .none := Dflts.noKw hD
  obtain ⟨a, vs, ns, rfl, rfl, hobj, hints, hlen⟩ := script_of hn hpre hwl
  refine enter_call (codeAny_mono (call w s₀ s₁ mg mb fa o pm cd doc a vs ns G Y ho (fd_plain hd) hcd hmg hobj hints hlen hg) fun r s' hq => ?_)
  obtain ⟨rfl, h2, h3, h4⟩ := hq
  exact ⟨.inl ⟨.bool true, .bool true, [], rfl, fun _ => rfl, .bool true, post_true l _, fun _ => ⟨List.Pairwise.nil, fun _ hm => (nomatch hm)⟩⟩, h2, h3, h4⟩

section
variable {prog : Program} {w : World} {A : Around} {E : Value → Shared → Prop} {s : Shared} {K : Frag}

def ledger (h : Heap) (L d : Addr) : List (Addr × Obj) := (List.range h.objs.size).filterMap fun a => if a = L ∨ a = d then none else (h.get? a).map fun o => (a, o)
end
end Att

namespace L2
open PySem PySem.Spec PyProof.Rows

theorem vals_ints : ∀ {vs : List Value} {ns : List Int}, IntsAre vs ns → Vals (ns.map V.int) vs
  | _, _, .nil => .nil
  | _, _, .cons n t h => .cons ⟨t, rfl⟩ (vals_ints h)

/-- nothing is tracked but the script, known to the object (or it is an object of the module) -/
def Only (H : Hp) : Prop := ∀ b, H b = none ∨ ∃ o xs, H b = some (.frz o (.lst xs))

/-- THE HEAD: the law's promise, at the heap behind the top. F, the promise of the law's def, may use that base is part of the heap (so K.In base, base.Ns mainGlobals mg stand in Mod) -/
theorem law_call {P : Program} {w : World} {K : PySem.W.Frag} {mg mb : Str → Option Value} {CX : CXT} {k : Nat} {fa a : Addr} {fd : FuncData} {x : Str} {sp : Sp} {s₁ : Shared} {vs : List Value} {ns : List Int}
    (KX : K.In s₁.heap) (hns : s₁.heap.Ns mainGlobals mg) (hb : s₁.heap.Ns builtinsNs mb) (hbb : ∀ x : Str, x ≠ "__name__" → mb x = bootBuiltins x) (hlim : s₁.heap.NoLimit) (hg : s₁.gens = #[])
    (ha : s₁.heap.get? a = some { cls := .type "list", data := .seq vs.toArray }) (hi : IntsAre vs ns) (hl : ns.length ≤ sizeLine) (hr : Room k callerA)
    (F : ∀ base : Heap, K.In base → base.Ns mainGlobals mg → FnOk P w K mg base CX k fa fd [x] sp) (hbind : ∀ (s : Shared) (u : Value), BindsTo s fd ⟨[u], []⟩ [(x, u)])
    (hsp : ∀ H : Hp, Only H → SqL K H a (ns.map V.int) → sp [.ref a] H (fun v _ => v = .bl true) fun _ _ _ => False)
    (hCX : ∀ H e s', CX [] H s₁ (fun _ _ _ => False) e s' → False) :
    codeAny (model P w) callerA (.call (.ref fa) ⟨[.ref a], []⟩) (fun r s' => r = .ok (.ret (.bool true)) ∧ OldK s₁.heap s'.heap ∧ s'.os = s₁.os ∧ AllBare s'.gens) s₁ := by
  have rv := vals_ints hi
  have lenV := hi.length
  -- from an abstract heap in which nothing but the script may be tracked
  have core : ∀ H : Hp, Only H → SqL K H a (ns.map V.int) → HOk P w H s₁.heap → (∀ b, H b ≠ none → b = a) → (H a ≠ none → K.lookup a = none) →
      codeAny (model P w) callerA (.call (.ref fa) ⟨[.ref a], []⟩) (fun r s' => r = .ok (.ret (.bool true)) ∧ OldK s₁.heap s'.heap ∧ s'.os = s₁.os ∧ AllBare s'.gens) s₁ := by
    intro H hO hS hok hA hK
    have base_of : ∀ {b : Addr} {o : Obj}, s₁.heap.get? b = some o → H b = none → (hidT s₁.heap H).get? b = some o := fun e n => hidT_get e n
    have noA : ∀ {b : Addr} {o : Obj} {es : Array DictEntry} {ep : Nat}, s₁.heap.get? b = some o → o.data = .dict es ep → H b = none := fun {b o es ep} e d => by
      cases q : H b with
      | none => rfl
      | some u =>
        have e' : b = a := hA b (by rw [q]; simp)
        subst e'
        rw [ha] at e; cases e
        have d' : Data.seq vs.toArray _ = Data.dict es ep := d
        cases d'
    have nsK : ∀ {b : Addr} {m : Str → Option Value}, s₁.heap.Ns b m → (hidT s₁.heap H).Ns b m := fun {b m} ⟨o, es, ep, e, d, r⟩ => ⟨o, es, ep, base_of e (noA e d), d, r⟩
    have hKb : K.In (hidT s₁.heap H) := fun b o e => base_of (KX b o e) (by
      cases q : H b with
      | none => rfl
      | some u =>
        have e' : b = a := hA b (by rw [q]; simp)
        subst e'
        rw [hK (by rw [q]; simp)] at e; cases e)
    have hM : Mod K mg (hidT s₁.heap H) := ⟨hKb, nsK hns, ⟨mb, nsK hb, hbb⟩, let ⟨mc, h1, h2⟩ := hlim; ⟨mc, nsK h1, h2⟩⟩
    have e0 : Env0 P w K mg (hidT s₁.heap H) callerA [] s₁ H := ⟨rfl, hM, fun b o e => of_hidT e, Nat.le_of_eq (hidT_size _ _), trivial, fun b hb => absurd (show b ∈ ([] : List Addr) from hb) (by simp), hok, .of_eq hg⟩
    refine codeAny_mono ((F _ hKb (nsK hns)).run callerA [] s₁ H ⟨[.ref a], []⟩ [.ref a] [.ref a] _ _ hr e0 (hbind s₁ (.ref a)) (.cons rfl .nil) (hsp H hO hS)) fun r s' h => ?_
    cases r with
    | error e => exact (hCX H e s' h).elim
    | ok fl =>
      cases fl with
      | next => exact False.elim h
      | brk => exact False.elim h
      | cont => exact False.elim h
      | ret u =>
        obtain ⟨v, H', os, bare, un, hok', r', q⟩ := h
        have q' : v = .bl true := q
        subst q'
        obtain rfl : u = Value.bool true := r'
        refine ⟨rfl, OldK.of_keep fun b o e => ?_, os, bare⟩
        cases q : H b with
        | none => exact un.keep b o e q (by intro z; exact absurd (show b ∈ ([] : List Addr) from z) (by simp)) (by simp)
        | some u =>
          rcases hO b with z | ⟨ob, xs, z⟩
          · rw [q] at z; cases z
          · have z2 := un.frzs b ob _ z
            obtain ⟨e1, _⟩ := hok b _ z
            obtain ⟨e2, _⟩ := hok' b _ z2
            rw [e] at e1; cases e1
            exact e2
  cases hk : K.lookup a with
  | some o =>
    -- the script is one of the module's own objects
    have e := KX a o hk
    rw [ha] at e
    cases e
    refine core (fun _ => none) (fun _ => .inl rfl) (.inr ⟨_, vs.toArray, _, hk, rfl, rfl, rfl, by rw [List.size_toArray, lenV]; exact hl, by simpa using rv⟩) (fun b u z => by have z' : (none : Option HO) = some u := z; cases z') (fun b z => absurd rfl z) fun z => absurd rfl z
  | none =>
    refine core (fun b => if b = a then some (.frz { cls := .type "list", data := .seq vs.toArray } (.lst (ns.map V.int))) else none) (fun b => ?_) (.inl (.inr ⟨{ cls := .type "list", data := .seq vs.toArray }, if_pos rfl⟩)) (fun b u z => ?_) (fun b z => ?_) fun _ => hk
    · by_cases hb : b = a
      · exact .inr ⟨_, _, if_pos hb⟩
      · exact .inl (if_neg hb)
    · by_cases hb : b = a
      · have z' := (if_pos hb).symm.trans z
        cases z'
        subst hb
        exact ⟨ha, by rw [List.length_map]; exact hl, vs, _, rv, ha⟩
      · have z' := (if_neg hb).symm.trans z
        cases z'
    · by_cases hb : b = a
      · exact hb
      · exact absurd (if_neg hb) z
end L2

namespace L2
open PySem PySem.Spec PyProof.Rows

abbrev KOf {K : PySem.W.Frag} {h : Heap} (_ : K.In h) : PySem.W.Frag := K

/-- the goal that k_head leaves (case hc), from the law's promise. F gives the function object fd (K's own) once, then the promise over every base -/
theorem walk_of {l : PySem.W.OpenLaw} {n k : Nat} {q : Program} {loose : List Str} {XP : (Str → Option Value) → Heap → Prop} {YP : World → Heap → Prop} {d : DefRec} {K : Params → PySem.W.Frag} {CX : World → CXT} {sp : World → Sp} {x : Str}
    (hn : l.most = some n) (hn2 : n ≤ sizeLine) (hdf : d.params.defaults = []) (hr : Room k callerA)
    (hY : ∀ (w : World) (h : Heap), YP w h → (K w.params).In h)
    (F : ∀ (w : World) (mg : Str → Option Value) (fa : Addr) (h : Heap), (K w.params).In h → h.Ns mainGlobals mg → mg d.name = some (.ref fa) →
      ∃ fd : FuncData, (∀ (s : Shared) (u : Value), BindsTo s fd ⟨[u], []⟩ [(x, u)]) ∧
        ∀ base : Heap, (K w.params).In base → base.Ns mainGlobals mg → FnOk l.prog w (K w.params) mg base (CX w) k fa fd [x] (sp w))
    (hsp : ∀ (w : World) (H : Hp) (a : Addr) (ns : List Int), ns.length ≤ n → Only H → SqL (K w.params) H a (ns.map V.int) → sp w [.ref a] H (fun v _ => v = .bl true) fun _ _ _ => False)
    (hCX : ∀ (w : World) (H : Hp) (s : Shared) (e : Value) (s' : Shared), CX w [] H s (fun _ _ _ => False) e s' → False) :
    PySem.W.WalkO q loose XP YP l.row.toRowW d [] (fun f vs => PySem.call f vs) := by
  refine Att.attach_call hn hdf fun w s₀ s₁ mg mb fa o pm cd doc a vs ns G Y ho hd hcd hmg hobj hints hlen hg => ?_
  have KX := hY w _ Y
  obtain ⟨fd, hb, hF⟩ := F w mg fa _ KX G.T.g hmg
  exact law_call KX G.T.g G.T.b G.T.builtins G.T.nolimit hg hobj hints (Nat.le_trans hlen hn2) hr hF hb (fun H hO hS => hsp w H a ns hlen hO hS) fun H e s' => hCX w H s₁ e s'
end L2

namespace L2
open PySem PySem.Spec PyProof.Rows

/-! ### the text by places -/
/-- the j-th statement of a class's body -/
def inClass (s : Stmt) (j : Nat) : Stmt := match s with
  | .ClassDef _ _ _ body _ _ _ _ _ _ _ => body.getD j (.Pass ⟨0, 0, 0, 0⟩)
  | _ => .Pass ⟨0, 0, 0, 0⟩
def defArgs (s : Stmt) : Arguments := match s with
  | .FunctionDef _ a _ _ _ _ _ _ _ _ => a
  | _ => { posonlyargs := [], args := [], vararg := none, kwonlyargs := [], kw_defaults := [], kwarg := none, defaults := [] }
def defBody (s : Stmt) : List Stmt := match s with
  | .FunctionDef _ _ b _ _ _ _ _ _ _ => b
  | _ => []
def defScope (s : Stmt) : Scope := match s with
  | .FunctionDef _ _ _ _ _ _ sc _ _ _ => sc
  | _ => { kind := .function, names := [], isGenerator := false, isCoroutine := false }

/-! ### no exception leaves a def -/
abbrev CX0 : CXT := fun _ _ _ _ _ _ => False
abbrev E0 : XK := fun _ _ _ => False
theorem pass0 {X : Cx} : Passes CX0 X E0 := fun _ _ _ _ _ _ _ h => h.elim

/-! ### a def (or method) of the text as it stands behind the top -/
structure Fun (K : PySem.W.Frag) (x qual : Str) (st : Stmt) (f : Addr) (fd : FuncData) : Prop where
  ex : ∃ (oc : Value) (od : Option Addr) (kV doc pm : Value) (an : Option Addr) (cdv ct : Value) (osl : Array (Option Value)),
    fd = PySem.W.fnOf x qual (defArgs st) (defBody st) (defScope st) .none kV doc pm an cdv ct ∧ K.lookup f = some ⟨oc, od, .func fd, osl⟩ ∧ PySem.W.codeIn K cdv qual = true
  kp : PySem.W.keepIn K (.ref f) = true
section
variable {P : Program} {w : World} {K : PySem.W.Frag} {mg : Str → Option Value} {base : Heap}
/-- THE RULE for a def: its body as a term of rules, and the reading of that term -/
theorem Fun.ok {x qual : Str} {st : Stmt} {f : Addr} {fd : FuncData} {N ps : List Str} {k : Nat} {sp : Sp} (F : Fun K x qual st f fd) (S : FnScope N ps (defScope st)) (len : ∀ vs H Q E, sp vs H Q E → vs.length = ps.length)
    (hbody : ∀ (cdv : Value) (A : Around) (outer : List Env) (s : Shared) (H : Hp) (vs : List V) (Q : VK) (E : XK), Room k (A.deeper (envOfC qual (defScope st) s.heap.objs.size f cdv)) → sp vs H Q E →
      ∃ t, PSs (cxOf CX0 P w K mg base N qual (defScope st) f cdv A outer s H E).nox (defBody st) t ∧ t { nx := fun _ H' => Q .non H', rt := Q } (start N vs) H) : FnOk P w K mg base CX0 (k + 1) f fd ps sp := by
  obtain ⟨oc, od, kV, doc, pm, an, cdv, ct, osl, rfl, lk, hcd⟩ := F.ex
  refine fn_of lk hcd S len fun A outer s H vs Q E hr hsp => ?_
  obtain ⟨t, h, q⟩ := hbody cdv A outer s H vs Q E hr hsp
  exact ⟨t, h.nox, q⟩
/-- how its arguments bind (no defaults): h is «fun _ _ _ _ _ _ us hl => match us, hl with | [_, _], _ => rfl», one _ a parameter -/
theorem Fun.binds {x qual : Str} {st : Stmt} {f : Addr} {fd : FuncData} {ps : List Str} (F : Fun K x qual st f fd)
    (h : ∀ (kV doc pm : Value) (an : Option Addr) (cdv ct : Value) (us : List Value), us.length = ps.length → bindArgs (PySem.W.fnOf x qual (defArgs st) (defBody st) (defScope st) .none kV doc pm an cdv ct) ⟨us, []⟩ = pure (ps.zip us)) : Binds K fd ps [] := by
  obtain ⟨oc, od, kV, doc, pm, an, cdv, ct, osl, rfl, lk, hcd⟩ := F.ex
  exact .all (h kV doc pm an cdv ct)
theorem fun_mk {x qual : Str} {st : Stmt} {f : Addr} {oc : Value} {od an : Option Addr} {osl : Array (Option Value)} {kV doc pm cdv ct : Value} (l : K.lookup f = some ⟨oc, od, .func (PySem.W.fnOf x qual (defArgs st) (defBody st) (defScope st) .none kV doc pm an cdv ct), osl⟩)
    (c : PySem.W.codeIn K cdv qual = true) (k : PySem.W.keepIn K (.ref f) = true) : Fun K x qual st f (PySem.W.fnOf x qual (defArgs st) (defBody st) (defScope st) .none kV doc pm an cdv ct) := ⟨⟨oc, od, kV, doc, pm, an, cdv, ct, osl, rfl, l, c⟩, k⟩
end
section
variable {X : Cx}
theorem pv (i : Nat) {x : Str} {pos : Pos} (hN : X.N[i]? = some x := by rfl) (hv : Vis X.env.scope x := by first | exact Or.inl rfl | exact Or.inr (Or.inl rfl) | exact Or.inr (Or.inr rfl)) (hd : (x == ("__debug__" : Str)) = false := by decide)
    (hcd : (x == ("__classdict__" : Str)) = false := by decide) : PE X (.Name x pos) (tVar i) := pe_var hN hv hd hcd
end

/-! ### tests -/
theorem iteF {A B : Prop} (h : B) : if false = true then A else B := by
  rw [if_neg Bool.false_ne_true]
  exact h
theorem iteT {A B : Prop} (h : A) : if true = true then A else B := by
  rw [if_pos rfl]
  exact h
theorem ite2 {c A B : Prop} [Decidable c] (h1 : c → A) (h2 : ¬ c → B) : if c then A else B := by
  by_cases h : c
  · rw [if_pos h]
    exact h1 h
  · rw [if_neg h]
    exact h2 h
theorem iteNS {c A B : Prop} [Decidable c] (hc : c) (h : B) : if (!decide c) = true then A else B := by
  rw [decide_eq_true hc]
  exact iteF h

/-! ### heaps -/
/-- all that was tracked is as it was -/
def Same (H H' : Hp) : Prop := ∀ b o, H b = some o → H' b = some o
theorem Same.refl (H : Hp) : Same H H := fun _ _ h => h
theorem Same.trans {H H1 H2 : Hp} (a : Same H H1) (b : Same H1 H2) : Same H H2 := fun c o h => b c o (a c o h)
theorem Same.free {H H' : Hp} (e : Same H H') {l : Addr} (h : H' l = Option.none) : H l = Option.none := by
  cases q : H l with
  | none => rfl
  | some o =>
    rw [e l o q] at h
    cases h
theorem Same.seq {K : PySem.W.Frag} {H H' : Hp} {a : Addr} {xs : List V} (e : Same H H') (h : SqL K H a xs) : SqL K H' a xs := by
  rcases h with (h | ⟨o, h⟩) | h
  · exact .inl (.inl (e _ _ h))
  · exact .inl (.inr ⟨o, e _ _ h⟩)
  · exact .inr h

section
variable {κ : Type} [DecidableEq κ]
end
/-- a new instance and its __init__ leave all that was tracked as it was -/
theorem Same.made {H H1 : Hp} {x dx C : Addr} (nx : H x = Option.none) (nd : H dx = Option.none) (k : ∀ b o, (upd (upd H dx (.own x)) x (.ins C dx [])) b = some o → b ≠ x → H1 b = some o) : Same H H1 := fun b o e =>
  k b o (by rw [upd_ne (ne_of_none e nx), upd_ne (ne_of_none e nd)]; exact e) (ne_of_none e nx)
end L2

set_option Elab.async false
set_option linter.all false
set_option maxRecDepth 100000
namespace L2.Lw
open PySem PySem.Spec PyProof.Rows

section
variable {prog : Program} {w : World} {A : Around} {E : Value → Shared → Prop} {s : Shared}

/-! ### the next item of a tuple's iterator -/
theorem nextT {it t : Addr} {i : Nat} {items : Array Value} {x : Value} {Q : Value → Shared → Prop} (hit : s.heap.IsTupleIter it t i) (ht : s.heap.IsTuple t items) (hx : items[i]? = some x)
    (hQ : ∀ h', h'.IsTupleIter it t (i + 1) → Heap.SameBut it s.heap h' → Q x { s with heap := h' }) : wpAny (model prog w) A (Builtin.SmallTypes.nextOf (.ref it)) Q E s := by
  obtain ⟨o, ho, hc, hd⟩ := id hit; obtain ⟨ol, hol, _, nl, hdl⟩ := ht
  unfold Builtin.SmallTypes.nextOf
  refine wpAny_bind (wpAny_callSpecial?_slot (name := Str.ofString "__next__") hit.typeIs PySem.F.slot_tuple_iterator_next (wpAny_call_entry PySem.F.slot_tuple_iterator_next hit.typeIs PySem.F.entry_tuple_iterator_next ?_ (PySem.F.args_tuple_iterator_next_1 _)))
  refine (show wpAny _ _ (field (.ref it) 0 >>= _) _ _ s from wpAny_bind (wpAny_field ho hd (x := .ref t) rfl ?_))
  show wpAny _ _ (if (Value.ref t == Value.none) = true then _ else _) _ _ s; rw [if_neg (show ¬ ((Value.ref t == Value.none) = true) from Bool.false_ne_true)]
  refine (show wpAny _ _ (field (.ref it) 1 >>= _) _ _ s from wpAny_bind (wpAny_field ho hd (x := .int i 0) rfl ?_))
  refine (show wpAny _ _ (seqItems? (.ref t) >>= _) _ _ s from wpAny_bind (wpAny_seqItems hol hdl ?_))
  simp only [Int.toNat_natCast, hx]
  refine wpAny_bind (wpAny_setField ho hd (by simp) (wpAny_pure ⟨x, rfl, wpAny_pure (hQ _ ⟨_, Heap.get?_update_self _ ho (Obj.isFreed_of_fields (Obj.data_mapFields hd _)), (Obj.cls_mapFields ..).trans hc, ?_⟩ (Heap.SameBut.update ..))⟩))
  rw [Obj.data_mapFields hd]; simp [rawInt]

theorem nextT_end {it t : Addr} {i : Nat} {items : Array Value} {Q : Value → Shared → Prop} (hh : A.handled = none) (hit : s.heap.IsTupleIter it t i) (ht : s.heap.IsTuple t items) (hx : items[i]? = none)
    (hE : ∀ h' e, Heap.ExtBut it s.heap h' → (∃ o, h'.get? e = some o ∧ o.cls = .type "StopIteration") → E (.ref e) { s with heap := h' }) : wpAny (model prog w) A (Builtin.SmallTypes.nextOf (.ref it)) Q E s := by
  obtain ⟨o, ho, hc, hd⟩ := id hit; obtain ⟨ol, hol, _, nl, hdl⟩ := ht
  unfold Builtin.SmallTypes.nextOf
  refine wpAny_bind (wpAny_callSpecial?_slot (name := Str.ofString "__next__") hit.typeIs PySem.F.slot_tuple_iterator_next (wpAny_call_entry PySem.F.slot_tuple_iterator_next hit.typeIs PySem.F.entry_tuple_iterator_next ?_ (PySem.F.args_tuple_iterator_next_1 _)))
  refine (show wpAny _ _ (field (.ref it) 0 >>= _) _ _ s from wpAny_bind (wpAny_field ho hd (x := .ref t) rfl ?_))
  show wpAny _ _ (if (Value.ref t == Value.none) = true then _ else _) _ _ s; rw [if_neg (show ¬ ((Value.ref t == Value.none) = true) from Bool.false_ne_true)]
  refine (show wpAny _ _ (field (.ref it) 1 >>= _) _ _ s from wpAny_bind (wpAny_field ho hd (x := .int i 0) rfl ?_))
  refine (show wpAny _ _ (seqItems? (.ref t) >>= _) _ _ s from wpAny_bind (wpAny_seqItems hol hdl ?_))
  simp only [Int.toNat_natCast, hx]
  refine wpAny_bind (wpAny_rule (wpAny_bind (wpAny_setField ho hd (by simp) ?_)))
  refine (show wpAny _ _ (newExc (.type "StopIteration") [] >>= _) _ _ _ from wpAny_bind ?_)
  simp only [newExc, newTuple]
  refine wpAny_bind (wpAny_newObj_type (wpAny_bind (m := firstArgMember _ _) (wpAny_of_eq (a := Value.none) (by first | rfl | (simp only [firstArgMember]; rfl)) (wpAny_newObj_type ?_ (by size_fits)))) (by size_fits))
  simp only [raiseNew]; refine wpAny_bind (wpAny_handled ?_)
  first | rw [show A.in1.handled = none from hh] | rw [hh]
  refine wpAny_bind (wpAny_pure (wpAny_throw (hE _ _ (((Heap.SameBut.update ..).extBut.push _).push _) ⟨_, Heap.get?_push_size _ rfl, rfl⟩)))
end

end L2.Lw

set_option Elab.async false
set_option linter.all false
set_option maxRecDepth 100000
namespace L2.Lw
open PySem PySem.Spec PyProof.Rows
open AutoSeq1 (wpAny_loadPart')

section
variable {prog : Program} {w : World} {A : Around} {E : Value → Shared → Prop} {s : Shared}
end

end L2.Lw

set_option Elab.async false
set_option linter.all false
set_option maxRecDepth 100000
namespace L2.Lw
open PySem PySem.Spec PyProof.Rows
open AutoSeq1 (wpAny_loadPart')

/-! ### t + u, any two tuples -/
def rCatA (K : PySem.W.Frag) : R2 := fun x y H Q => ∃ a b xs ys, x = .ref a ∧ y = .ref b ∧ SqT K H a xs ∧ SqT K H b ys ∧ xs.length + ys.length ≤ sizeLine ∧
  (xs = [] → Q (.ref b) H) ∧ (ys = [] → Q (.ref a) H) ∧ ∀ p, H p = none → Q (.ref p) (upd H p (.tup (xs ++ ys)))
theorem op_catA {X : Cx} : OpR X (binaryOp .Add) (rCatA X.K) := by
  intro pins s σ H x y v u Q I rx ry h
  obtain ⟨a, b, xs, ys, rfl, rfl, ha, hb, hz, q0, q1, q2⟩ := h
  cases rx
  cases ry
  obtain ⟨its, r1, p1, _⟩ := I.tuple ha
  obtain ⟨its2, r2, p2, _⟩ := I.tuple hb
  by_cases hv : its = []
  · obtain ⟨⟨cls, dd, data, sl⟩, ho, hc, n, hd⟩ := id p1
    obtain ⟨⟨cls2, dd2, data2, sl2⟩, ho2, hc2, n2, hd2⟩ := id p2
    simp only at hc hd hc2 hd2; subst hc hd hc2 hd2
    exact concat_meets ⟨_, ho, rfl⟩ ⟨_, ho2, rfl⟩ noFill_tuple_add seq_tuple_add PySem.F.slot_tuple_add PySem.F.entry_tuple_add (PySem.F.args_tuple_add_2 _ _) (tuple_addW0 a b its.toArray its2.toArray n n2 dd dd2 sl sl2 (by simp [hv])) ⟨ho, ho2, ⟨.ref b, H, I, rfl, q0 (r1.nil_iff.mp hv)⟩⟩
  · refine HT.cat_tup p1 p2 hv (fun z => ⟨.ref a, H, I, rfl, q1 (r2.nil_iff.mp z)⟩) (fun z => ?_) (by rw [← r1.length, ← r2.length]; exact hz)
    refine ⟨.ref s.heap.objs.size, _, I.laid (t' := s.toks) (o := .tup (xs ++ ys)) (fun b ob q => Heap.get?_push_of_some _ q) (Nat.le_refl _) ?_, rfl, q2 _ (I.hok.fresh (Nat.le_refl _))⟩
    exact ⟨by rw [List.length_append]; exact hz, _, r1.append r2, IsTup.new _ _⟩

/-! ### t * n, a tuple and a number -/
theorem noFill_tuple_mul : fillsNumberSlot (.type "tuple") "mul" = pure false :=
  PySem.fillsNumberSlot_seq (id := "tuple.__mul__") (r := some (.builtin "tuple.__rmul__")) PySem.F.slot_tuple_mul.lookup (by decide +kernel) PySem.F.slot_tuple_rmul.lookup (by decide +kernel)
theorem repeat_tuple : seqRepeat? (.type "tuple") = pure (some (.builtin "tuple.__mul__")) := by
  unfold seqRepeat?; rw [PySem.seqSlot_of (T := "tuple") (name := "__mul__") (id := "tuple.__mul__") PySem.F.slot_tuple_mul.lookup (by decide +kernel), PySem.seqSlot_of (T := "tuple") (name := "__rmul__") (id := "tuple.__rmul__") PySem.F.slot_tuple_rmul.lookup (by decide +kernel)]
  rfl
theorem rmul_int_tuple (a : Int) (t : Tok) (l : Addr) (items : Array Value) (n : Nat) (dd : Option Addr) (sl : Array (Option Value)) :
    Meets (Builtin.«int.__rmul__» ⟨[.int a t, .ref l], []⟩) (fun _ R s => s.heap.get? l = some { cls := .type "tuple", dict := dd, data := .seq items n, slots := sl } ∧ R (.ok (.ret Value.notImplemented)) s) :=
  .of_wp fun prog w A R s h => by obtain ⟨hp, g, d, tk, os⟩ := s; obtain ⟨hl, h⟩ := h; wp_walk using wpAny_loadPart' hl; exact ⟨_, rfl, h⟩
def repA (items : Array Value) (x : Int) : Array Value := if x ≤ 0 then #[] else List.foldl (fun x1 x2 => x1 ++ x2) #[] (List.replicate x.toNat items)
theorem mul_tuple_meets (l : Addr) (items : Array Value) (n : Nat) (dd : Option Addr) (sl : Array (Option Value)) (x : Int) (u : Tok) (h1 : items.isEmpty = false) (hx : -(2 ^ 63) ≤ x) (hx1 : ¬ x = 1) (h2 : (items.size : Int) * x ≤ sizeLine) (hx2 : x < 2 ^ 63)
    (hz : (repA items x).size ≤ sizeLine) :
    Meets (Builtin.«tuple.__mul__» ⟨[.ref l, .int x u], []⟩) (fun _ R s => s.heap.get? l = some { cls := .type "tuple", dict := dd, data := .seq items n, slots := sl } ∧ R (.ok (.ret (Value.ref s.heap.objs.size))) { s with heap := s.heap.push { cls := Value.type "tuple", data := Data.seq (repA items x) } }) :=
  .of_wp fun prog w A R s h => by
    obtain ⟨hp, g, d, tk, os⟩ := s; obtain ⟨hl, h⟩ := h
    have hline : (sizeLine : Int) = 16777216 := by decide
    wp_walk using wpAny_loadPart' hl
    refine wpAny_ite_false (by simp; omega) ?_
    wp_walk using wpAny_loadPart' hl
    by_cases h0 : x ≤ 0
    · refine wpAny_ite_true (by simp [h0]) ?_
      have e : repA items x = #[] := if_pos h0
      rw [e] at h
      wp_walk; exact ⟨_, rfl, h⟩
    · refine wpAny_ite_false (by simp [h0, h1]) ?_
      have e : repA items x = List.foldl (fun x1 x2 => x1 ++ x2) #[] (List.replicate x.toNat items) := if_neg h0
      rw [e] at h hz
      refine wpAny_ite_false (by simp; omega) ?_
      refine wpAny_ite_false (by simp [Builtin.Tuple.tupleTooMany]; omega) ?_
      wp_walk; exact ⟨_, rfl, h⟩
theorem mul_tuple_meets1 (l : Addr) (items : Array Value) (n : Nat) (dd : Option Addr) (sl : Array (Option Value)) (u : Tok) :
    Meets (Builtin.«tuple.__mul__» ⟨[.ref l, .int 1 u], []⟩) (fun _ R s => s.heap.get? l = some { cls := .type "tuple", dict := dd, data := .seq items n, slots := sl } ∧ R (.ok (.ret (Value.ref l))) s) :=
  .of_wp fun prog w A R s h => by
    obtain ⟨hp, g, d, tk, os⟩ := s; obtain ⟨hl, h⟩ := h
    wp_walk using wpAny_loadPart' hl; exact ⟨_, rfl, h⟩
theorem repA_list (its : List Value) (x : Int) : repA its.toArray x = ((List.replicate x.toNat its).flatten).toArray := by
  unfold repA
  by_cases h : x ≤ 0
  · rw [if_pos h, show x.toNat = 0 by omega]; simp
  · rw [if_neg h]
    have go : ∀ (n : Nat) (acc : List Value), List.foldl (fun x1 x2 => x1 ++ x2) acc.toArray (List.replicate n its.toArray) = (acc ++ (List.replicate n its).flatten).toArray := by
      intro n
      induction n with
      | zero => intro acc; simp
      | succ n ih => intro acc; rw [List.replicate_succ, List.foldl_cons, List.append_toArray, ih]; simp [List.replicate_succ]
    have := go x.toNat []
    simpa using this
theorem valsRep {xs : List V} {us : List Value} (r : Vals xs us) : ∀ n, Vals (List.replicate n xs).flatten (List.replicate n us).flatten
  | 0 => .nil
  | n + 1 => by rw [List.replicate_succ, List.replicate_succ, List.flatten_cons, List.flatten_cons]; exact r.append (valsRep r n)
theorem lenRep {α : Type} (xs : List α) (n : Nat) : ((List.replicate n xs).flatten).length = n * xs.length := by
  induction n with
  | zero => simp
  | succ n ih => rw [List.replicate_succ, List.flatten_cons, List.length_append, ih, Nat.succ_mul]; omega
/-- t * n: t itself where n is 1 -/
def rRepT (K : PySem.W.Frag) : R2 := fun x y H Q => ∃ a xs n, x = .ref a ∧ y = .int n ∧ SqT K H a xs ∧ xs ≠ [] ∧ 0 ≤ n ∧ n.toNat * xs.length ≤ sizeLine ∧ (n = 1 → Q (.ref a) H) ∧ ∀ p, H p = none → Q (.ref p) (upd H p (.tup (List.replicate n.toNat xs).flatten))
theorem op_repT {X : Cx} : OpR X (binaryOp .Mult) (rRepT X.K) := by
  intro pins s σ H x y v u Q I rx ry h
  obtain ⟨a, xs, n, rfl, rfl, ha, hne, h0, hz, q1, q2⟩ := h
  cases rx
  obtain ⟨t, rfl⟩ := ry
  obtain ⟨its, r1, p1, _⟩ := I.tuple ha
  obtain ⟨⟨cls, dd, data, sl⟩, ho, hc, k, hd⟩ := id p1
  simp only at hc hd; subst hc hd
  have hlen := r1.length
  have hpos : 0 < xs.length := List.length_pos_iff.mpr hne
  have hline : sizeLine = 16777216 := by decide
  have hnb : n.toNat ≤ sizeLine := Nat.le_trans (Nat.le_mul_of_pos_right _ hpos) hz
  refine wpAny_binaryOp_repeat_ref (T := "tuple") (U := "int") (by decide) ⟨_, ho, rfl⟩ (fun s' => typeIs_int s' n t) noFill_tuple_mul PySem.F.fills_int_mul PySem.F.slot_int_rmul repeat_tuple PySem.F.slot_int_index.lookup
    (call_meets PySem.F.slot_int_rmul (typeIs_int s n t) PySem.F.entry_int_rmul (PySem.F.args_int_rmul_2 _ _) (rmul_int_tuple n t a its.toArray k dd sl) ⟨ho, rfl, ⟨_, ho, rfl⟩, ?_⟩)
  by_cases e1 : n = 1
  · subst e1
    exact call_meets PySem.F.slot_tuple_mul ⟨_, ho, rfl⟩ PySem.F.entry_tuple_mul (PySem.F.args_tuple_mul_2 _ _) (mul_tuple_meets1 a its.toArray k dd sl t) ⟨ho, ⟨.ref a, H, I, rfl, q1 rfl⟩⟩
  · have hsz : (repA its.toArray n).size ≤ sizeLine := by rw [repA_list, List.size_toArray, lenRep, ← hlen]; exact hz
    have hmul : ((its.toArray.size : Nat) : Int) * n ≤ sizeLine := by
      rw [List.size_toArray, ← hlen]
      have e : n = (n.toNat : Int) := by omega
      rw [e, ← Int.natCast_mul, Nat.mul_comm]
      exact Int.ofNat_le.mpr hz
    refine call_meets PySem.F.slot_tuple_mul ⟨_, ho, rfl⟩ PySem.F.entry_tuple_mul (PySem.F.args_tuple_mul_2 _ _) (mul_tuple_meets a its.toArray k dd sl n t ?_ (by omega) e1 hmul (by omega) hsz) ⟨ho, ?_⟩
    · cases its with
      | nil => rw [List.length_nil] at hlen; omega
      | cons _ _ => rfl
    · rw [repA_list]
      refine ⟨.ref s.heap.objs.size, _, I.laid (t' := s.toks) (o := .tup (List.replicate n.toNat xs).flatten) (fun b ob q => Heap.get?_push_of_some _ q) (Nat.le_refl _) ?_, rfl, q2 _ (I.hok.fresh (Nat.le_refl _))⟩
      exact ⟨by rw [lenRep]; exact hz, _, valsRep r1 _, IsTup.new _ _⟩

/-! ### isinstance(x, c) and isinstance(x, (c, d)) of a plain value -/
/-- the built-in class of a value -/
inductive TyN (H : Hp) : V → String → Prop where
  | non : TyN H .non "NoneType"
  | bl (x : Bool) : TyN H (.bl x) "bool"
  | int (i : Int) : TyN H (.int i) "int"
  | str (x : Str) : TyN H (.str x) "str"
  | lst {a : Addr} {xs : List V} (e : H a = some (.lst xs)) : TyN H (.ref a) "list"
  | tup {a : Addr} {xs : List V} (e : H a = some (.tup xs)) : TyN H (.ref a) "tuple"
theorem TyN.of {K : PySem.W.Frag} {H : Hp} {x : V} {n : String} (h : TyN H x n) : TyOf K H x (.type n) := by
  cases h with
  | non => exact .non
  | bl x => exact .bl x
  | int i => exact .int i
  | str x => exact .str x
  | lst e => exact .lst e
  | tup e => exact .tup e
theorem call_isi1 {X : Cx} : CallR X (.builtin "isinstance") (fun xs H Q => ∃ x c n b, xs = [x, .ty c] ∧ TyN H x n ∧ PySem.W.kitOne X.K (.type n) (.type c) = some b ∧ Q (.bl b) H) := by
  intro pins s σ H xs us Q I r h
  obtain ⟨x, c, n, b, rfl, ty, e, q⟩ := h
  obtain ⟨u1, u2, rfl, r1, r2⟩ := vals2 r
  cases (show u2 = Value.type c from r2)
  exact isinst_ok I r1 ty.of e fun tk => ⟨.bl b, H, I.tok tk, rfl, q⟩
theorem call_isiT {X : Cx} : CallR X (.builtin "isinstance") (fun xs H Q => ∃ x p c d n b, xs = [x, .ref p] ∧ TyN H x n ∧ H p = some (.tup [.ty c, .ty d]) ∧ PySem.W.kitAny X.K (.type n) [.type c, .type d] = some b ∧ Q (.bl b) H) := by
  intro pins s σ H xs us Q I r h
  obtain ⟨x, p, c, d, n, b, rfl, ty, hp, e, q⟩ := h
  obtain ⟨u1, u2, rfl, r1, r2⟩ := vals2 r
  cases (show u2 = Value.ref p from r2)
  obtain ⟨hz, its, rv, ob⟩ := (show ObjOk X.prog X.w H s.heap p (.tup [.ty c, .ty d]) from I.hok p _ hp)
  obtain ⟨⟨cls, dd, data, sl⟩, ho, hc, k, hd⟩ := id ob
  simp only at hc hd; subst hc hd
  have ei : its = [Value.type c, Value.type d] := by
    cases rv with
    | cons a rv => cases rv with
      | cons b rv => cases rv; rw [show _ = Value.type c from a, show _ = Value.type d from b]
  subst ei
  have fin : ∀ tk, EP X pins σ Q (Value.bool b) { s with toks := tk } := fun tk => ⟨.bl b, H, I.tok tk, rfl, q⟩
  cases ty with
  | non => cases (show u1 = Value.none from r1); exact PySem.W.kia_tup PySem.W.kitx_none I.kIn True.intro ho e (fun z => nomatch z) fin
  | bl y => cases (show u1 = Value.bool y from r1); exact PySem.W.kia_tup PySem.W.kitx_bool I.kIn True.intro ho e (fun z => nomatch z) fin
  | int i => obtain ⟨t, z⟩ := (show ∃ t, u1 = Value.int i t from r1); cases z; exact PySem.W.kia_tup PySem.W.kitx_int I.kIn True.intro ho e (fun z => nomatch z) fin
  | str y => obtain ⟨t, z⟩ := (show ∃ t, u1 = Value.str y t from r1); cases z; exact PySem.W.kia_tup PySem.W.kitx_str I.kIn True.intro ho e (fun z => nomatch z) fin
  | @lst a xs ea =>
    cases (show u1 = Value.ref a from r1)
    obtain ⟨_, _, n, _, h1⟩ := (show ObjOk X.prog X.w H s.heap a (.lst xs) from I.hok a _ ea)
    exact PySem.W.kia_tup PySem.W.kitx_list I.kIn ⟨_, h1, rfl⟩ ho e (fun z => nomatch z) fin
  | @tup a xs ea =>
    cases (show u1 = Value.ref a from r1)
    obtain ⟨_, _, _, p⟩ := (show ObjOk X.prog X.w H s.heap a (.tup xs) from I.hok a _ ea)
    obtain ⟨o, h1, h2, _⟩ := p
    exact PySem.W.kia_tup PySem.W.kitx_tuple I.kIn ⟨o, h1, h2⟩ ho e (fun z => nomatch z) fin
end L2.Lw

set_option Elab.async false
set_option linter.all false
set_option maxRecDepth 100000
namespace L2.Lw
open PySem PySem.Spec PyProof.Rows
open AutoSeq1 (wpAny_loadPart')

section
variable {prog : Program} {w : World} {A : Around} {E : Value → Shared → Prop} {s : Shared}
/-- the part of a zip's next that is the same whether it ends or not -/
theorem zipNextT {z TI TO i1 i2 l1 l2 : Addr} {k1 k2 : Nat} {xs ys : Array Value} {x y a b : Value} {Q : Value → Shared → Prop} (D : ZipApart z TI TO i1 i2 l1 l2)
    (hz : IsZip s.heap z TI TO .none) (hTI : IsPair s.heap TI (.ref i1) (.ref i2)) (hTO : IsPair s.heap TO a b)
    (h1 : s.heap.IsTupleIter i1 l1 k1) (h2 : s.heap.IsTupleIter i2 l2 k2) (hl1 : s.heap.IsTuple l1 xs) (hl2 : s.heap.IsTuple l2 ys) (hx : xs[k1]? = some x) (hy : ys[k2]? = some y)
    (hQ : ∀ h', IsZip h' z TI TO (rawInt s.heap.objs.size) → IsPair h' TO x y → h'.IsTupleIter i1 l1 (k1 + 1) → h'.IsTupleIter i2 l2 (k2 + 1) → IsPair h' s.heap.objs.size x y → h'.objs.size = s.heap.objs.size + 1 →
      (∀ c o, c ≠ z → c ≠ TO → c ≠ i1 → c ≠ i2 → s.heap.get? c = some o → h'.get? c = some o) → Q (.ref s.heap.objs.size) { s with heap := h' }) :
    wpAny (model prog w) A (Builtin.«zip.__next__» ⟨[.ref z], []⟩) (fun fin s' => ∃ v, fin = .done (.ret v) ∧ Q v s') E s := by
  refine (show wpAny _ _ (field (.ref z) 2 >>= _) _ _ _ from wpAny_bind (wpAny_field hz rfl (x := .bool false) rfl ?_))
  refine (show wpAny _ _ (field (.ref z) 3 >>= _) _ _ _ from wpAny_bind (wpAny_field hz rfl (x := .ref TI) rfl (wpAny_bind (wpAny_seqItems hTI rfl ?_))))
  refine (show wpAny _ _ (Builtin.SmallTypes.ownedTupleIsFree (.ref z) >>= _) _ _ _ from wpAny_bind ?_)
  unfold Builtin.SmallTypes.ownedTupleIsFree
  refine wpAny_bind (wpAny_field hz rfl (x := .none) rfl (wpAny_pure ?_)); simp only [if_true]
  refine wpAny_bind (wpAny_rule (wpAny_bind (wpAny_field hz rfl (x := .ref TO) rfl (wpAny_bind (wpAny_setField_rec hz (by simp) fun g1 hz1 hs1 => ?_)))))
  replace hz1 : IsZip g1 z TI TO .ellipsis := hz1
  refine wpAny_bind ?_; simp only [List.zipIdx_cons, List.zipIdx_nil, List.forIn_cons, List.forIn_nil]
  refine wpAny_bind (wpAny_bind (wpAny_onRaise (show wpAny _ _ (Builtin.SmallTypes.nextOf (.ref i1) >>= _) _ _ _ from wpAny_bind (nextT (h1.extBut hs1.extBut D.i1z) (hl1.extBut hs1.extBut D.l1z) hx fun g2 h12 hs2 => wpAny_pure ?_))))
  have hTO2 : IsPair g2 TO a b := hs2.extBut _ _ D.TOi1 (hs1.extBut _ _ D.TOz hTO)
  refine wpAny_bind (wpAny_seqItems hTO2 rfl (wpAny_bind (wpAny_updateSeq_pair hTO2 fun g3 hTO3 hs3 => ?_)))
  replace hTO3 : IsPair g3 TO x b := hTO3
  refine wpAny_bind (wpAny_letGo (wpAny_pure (wpAny_bind (wpAny_bind (wpAny_onRaise ?_)))))
  refine (show wpAny _ _ (Builtin.SmallTypes.nextOf (.ref i2) >>= _) _ _ _ from wpAny_bind (nextT (((h2.extBut hs1.extBut D.i2z).extBut hs2.extBut D.i12.symm).extBut hs3.extBut D.TOi2.symm) (((hl2.extBut hs1.extBut D.l2z).extBut hs2.extBut D.l2i1).extBut hs3.extBut D.l2TO) hy fun g4 h24 hs4 => wpAny_pure ?_))
  have hTO4 : IsPair g4 TO x b := hs4.extBut _ _ D.TOi2 hTO3
  refine wpAny_bind (wpAny_seqItems hTO4 rfl (wpAny_bind (wpAny_updateSeq_pair hTO4 fun g5 hTO5 hs5 => ?_)))
  replace hTO5 : IsPair g5 TO x y := hTO5
  refine wpAny_bind (wpAny_letGo (wpAny_pure (wpAny_pure (wpAny_bind (wpAny_seqItems hTO5 rfl (wpAny_bind (wpAny_newTuple ?_)))))))
  have hsz : g5.objs.size = s.heap.objs.size := by rw [hs5.1, hs4.1, hs3.1, hs2.1, hs1.1]
  have hz5 : IsZip g5 z TI TO .ellipsis := hs5.extBut _ _ D.TOz.symm (hs4.extBut _ _ D.i2z.symm (hs3.extBut _ _ D.TOz.symm (hs2.extBut _ _ D.i1z.symm hz1)))
  have hk5 : ∀ c o, c ≠ z → c ≠ TO → c ≠ i1 → c ≠ i2 → s.heap.get? c = some o → g5.get? c = some o := fun c o c1 c2 c3 c4 e => hs5.extBut _ _ c2 (hs4.extBut _ _ c4 (hs3.extBut _ _ c2 (hs2.extBut _ _ c3 (hs1.extBut _ _ c1 e))))
  have h15 : g5.IsTupleIter i1 l1 (k1 + 1) := ((h12.extBut hs3.extBut D.TOi1.symm).extBut hs4.extBut D.i12).extBut hs5.extBut D.TOi1.symm
  have h25 : g5.IsTupleIter i2 l2 (k2 + 1) := h24.extBut hs5.extBut D.TOi2.symm
  have hzlt : z < g5.objs.size := Heap.lt_size hz5
  refine (show wpAny _ _ (Builtin.SmallTypes.ownedTupleHandOut (.ref z) (.ref g5.objs.size) >>= _) _ _ _ from wpAny_bind ?_)
  unfold Builtin.SmallTypes.ownedTupleHandOut
  have hz6 : IsZip (g5.push { cls := .type "tuple", data := .seq #[x, y] }) z TI TO .ellipsis := Heap.get?_push_of_some _ hz5
  refine wpAny_bind (wpAny_setField_rec hz6 (by simp) fun g7 hz7 hs7 => ?_)
  replace hz7 : IsZip g7 z TI TO (rawInt g5.objs.size) := hz7
  refine wpAny_setField_rec hz7 (by simp) fun g8 hz8 hs8 => ?_
  replace hz8 : IsZip g8 z TI TO (rawInt g5.objs.size) := hz8
  have up : ∀ c o, c ≠ z → g5.get? c = some o → g8.get? c = some o := fun c o c1 e => hs8.extBut _ _ c1 (hs7.extBut _ _ c1 (Heap.get?_push_of_some _ e))
  have hT8 : IsPair g8 g5.objs.size x y := hs8.extBut _ _ (Nat.ne_of_gt hzlt) (hs7.extBut _ _ (Nat.ne_of_gt hzlt) (Heap.get?_push_size _ rfl))
  have hz9 : g8.objs.size = g5.objs.size + 1 := by rw [hs8.1, hs7.1, Heap.size_push]
  rw [hsz] at hz8 hT8 hz9
  refine wpAny_pure ⟨_, rfl, ?_⟩
  show Q (.ref g5.objs.size) _; rw [hsz]
  exact hQ g8 hz8 (up _ _ D.TOz hTO5) (h15.at fun o e => up _ o D.i1z e) (h25.at fun o e => up _ o D.i2z e) hT8 hz9 fun c o c1 c2 c3 c4 e => up c o c1 (hk5 c o c1 c2 c3 c4 e)
theorem zipEndT {z TI TO i1 i2 l1 l2 : Addr} {k1 k2 : Nat} {xs ys : Array Value} {a b : Value} {Q : PySem.Fin → Shared → Prop} (hh : A.handled = none) (D : ZipApart z TI TO i1 i2 l1 l2)
    (hz : IsZip s.heap z TI TO .none) (hTI : IsPair s.heap TI (.ref i1) (.ref i2)) (hTO : IsPair s.heap TO a b)
    (h1 : s.heap.IsTupleIter i1 l1 k1) (h2 : s.heap.IsTupleIter i2 l2 k2) (hl1 : s.heap.IsTuple l1 xs) (hl2 : s.heap.IsTuple l2 ys) (hend : xs[k1]? = none ∨ ys[k2]? = none)
    (hE : ∀ h' e, (∀ c o, c ≠ z → c ≠ TO → c ≠ i1 → c ≠ i2 → s.heap.get? c = some o → h'.get? c = some o) → (∃ o, h'.get? e = some o ∧ o.cls = .type "StopIteration") → E (.ref e) { s with heap := h' }) :
    wpAny (model prog w) A (Builtin.«zip.__next__» ⟨[.ref z], []⟩) Q E s := by
  refine (show wpAny _ _ (field (.ref z) 2 >>= _) _ _ _ from wpAny_bind (wpAny_field hz rfl (x := .bool false) rfl ?_))
  refine (show wpAny _ _ (field (.ref z) 3 >>= _) _ _ _ from wpAny_bind (wpAny_field hz rfl (x := .ref TI) rfl (wpAny_bind (wpAny_seqItems hTI rfl ?_))))
  refine (show wpAny _ _ (Builtin.SmallTypes.ownedTupleIsFree (.ref z) >>= _) _ _ _ from wpAny_bind ?_)
  unfold Builtin.SmallTypes.ownedTupleIsFree
  refine wpAny_bind (wpAny_field hz rfl (x := .none) rfl (wpAny_pure ?_)); simp only [if_true]
  refine wpAny_bind (wpAny_rule (wpAny_bind (wpAny_field hz rfl (x := .ref TO) rfl (wpAny_bind (wpAny_setField_rec hz (by simp) fun g1 hz1 hs1 => ?_)))))
  replace hz1 : IsZip g1 z TI TO .ellipsis := hz1
  refine wpAny_bind ?_; simp only [List.zipIdx_cons, List.zipIdx_nil, List.forIn_cons, List.forIn_nil]
  refine wpAny_bind (wpAny_bind (wpAny_onRaise (show wpAny _ _ (Builtin.SmallTypes.nextOf (.ref i1) >>= _) _ _ _ from ?_)))
  cases hx : xs[k1]? with
  | none =>
    refine wpAny_bind (nextT_end hh (h1.extBut hs1.extBut D.i1z) (hl1.extBut hs1.extBut D.l1z) hx fun g2 e hs2 he => ?_)
    obtain ⟨oe, hoe, hce⟩ := he
    have hz2 : IsZip g2 z TI TO .ellipsis := hs2 _ _ D.i1z.symm hz1
    have hez : e ≠ z := fun x => by subst x; rw [hz2] at hoe; cases hoe; simp at hce
    exact wpAny_setField_rec hz2 (by simp) fun g3 _ hs3 => hE g3 e (fun c o c1 _ c3 _ x => hs3.extBut _ _ c1 (hs2 _ _ c3 (hs1.extBut _ _ c1 x))) ⟨oe, hs3.extBut _ _ hez hoe, hce⟩
  | some x =>
    have hy : ys[k2]? = none := by rcases hend with h | h; rw [hx] at h; cases h; exact h
    refine wpAny_bind (nextT (h1.extBut hs1.extBut D.i1z) (hl1.extBut hs1.extBut D.l1z) hx fun g2 h12 hs2 => wpAny_pure ?_)
    have hTO2 : IsPair g2 TO a b := hs2.extBut _ _ D.TOi1 (hs1.extBut _ _ D.TOz hTO)
    refine wpAny_bind (wpAny_seqItems hTO2 rfl (wpAny_bind (wpAny_updateSeq_pair hTO2 fun g3 hTO3 hs3 => wpAny_bind (wpAny_letGo (wpAny_pure (wpAny_bind (wpAny_bind (wpAny_onRaise ?_))))))))
    refine (show wpAny _ _ (Builtin.SmallTypes.nextOf (.ref i2) >>= _) _ _ _ from wpAny_bind (nextT_end hh (((h2.extBut hs1.extBut D.i2z).extBut hs2.extBut D.i12.symm).extBut hs3.extBut D.TOi2.symm) (((hl2.extBut hs1.extBut D.l2z).extBut hs2.extBut D.l2i1).extBut hs3.extBut D.l2TO) hy fun g4 e hs4 he => ?_))
    obtain ⟨oe, hoe, hce⟩ := he
    have hz4 : IsZip g4 z TI TO .ellipsis := hs4 _ _ D.i2z.symm (hs3.extBut _ _ D.TOz.symm (hs2.extBut _ _ D.i1z.symm hz1))
    have hez : e ≠ z := fun x => by subst x; rw [hz4] at hoe; cases hoe; simp at hce
    exact wpAny_setField_rec hz4 (by simp) fun g5 _ hs5 => hE g5 e (fun c o c1 c2 c3 c4 x => hs5.extBut _ _ c1 (hs4 _ _ c4 (hs3.extBut _ _ c2 (hs2.extBut _ _ c3 (hs1.extBut _ _ c1 x))))) ⟨oe, hs5.extBut _ _ hez hoe, hce⟩
end
theorem zipNewT (l1 l2 : Addr) (xs ys : Array Value) :
    Meets (Builtin.«zip.__new__» ⟨[.type "zip", .ref l1, .ref l2], []⟩) (fun _ R s => s.heap.IsTuple l1 xs ∧ s.heap.IsTuple l2 ys ∧
      ∀ h', IsZip h' (s.heap.objs.size + 4) (s.heap.objs.size + 2) (s.heap.objs.size + 3) .none → IsPair h' (s.heap.objs.size + 2) (.ref s.heap.objs.size) (.ref (s.heap.objs.size + 1)) → IsPair h' (s.heap.objs.size + 3) .none .none → h'.IsTupleIter s.heap.objs.size l1 0 → h'.IsTupleIter (s.heap.objs.size + 1) l2 0 →
        (∀ c o, s.heap.get? c = some o → h'.get? c = some o) → R (.ok (.ret (.ref (s.heap.objs.size + 4)))) { s with heap := h' }) :=
  .of_wp fun prog w A R s h => by
    obtain ⟨hp, g, d, tk, os⟩ := s; obtain ⟨hl1, hl2, h⟩ := h
    have hsub := sub_zip
    have hL1 : Heap.IsTuple (Shared.heap ⟨hp, g, d, tk, os⟩) l1 xs := hl1
    have hL2 : Heap.IsTuple (Shared.heap ⟨hp.push { cls := .type "tuple_iterator", data := .fields #[.ref l1, .int 0 0] }, g, d, tk, os⟩) l2 ys := Heap.IsTuple.push hl2 _
    wp_walk using wpAny_pyIter_tuple hL1, wpAny_pyIter_tuple hL2
    refine ⟨_, rfl, ?_⟩
    generalize e1 : hp.push { cls := .type "tuple_iterator", data := .fields #[.ref l1, .int 0 0] } = a1 at *
    generalize e2 : a1.push { cls := .type "tuple_iterator", data := .fields #[.ref l2, .int 0 0] } = a2 at *
    have z1 : a1.objs.size = hp.objs.size + 1 := by rw [← e1, Heap.size_push]
    have z2 : a2.objs.size = hp.objs.size + 2 := by rw [← e2, Heap.size_push, z1]
    rw [z1]
    generalize e3 : a2.push { cls := .type "tuple", data := .seq ((#[].push (Value.ref hp.objs.size)).push (Value.ref (hp.objs.size + 1))).toList.toArray } = a3 at *
    have z3 : a3.objs.size = hp.objs.size + 3 := by rw [← e3, Heap.size_push, z2]
    generalize e4 : a3.push { cls := .type "tuple", data := .seq (List.map (fun x => Value.none) ((#[].push (Value.ref hp.objs.size)).push (Value.ref (hp.objs.size + 1))).toList).toArray } = a4 at *
    have z4 : a4.objs.size = hp.objs.size + 4 := by rw [← e4, Heap.size_push, z3]
    rw [z2, z3, z4]
    generalize e5 : a4.push { cls := Value.type "zip", data := Data.fields (Builtin.SmallTypes.ownedTupleFields ++ [Value.bool false, Value.ref (hp.objs.size + 2), Value.ref (hp.objs.size + 3)]).toArray } = a5 at *
    have k5 : ∀ c o, a4.get? c = some o → a5.get? c = some o := fun c o q => by rw [← e5]; exact Heap.get?_push_of_some _ q
    have k4 : ∀ c o, a3.get? c = some o → a5.get? c = some o := fun c o q => k5 c o (by rw [← e4]; exact Heap.get?_push_of_some _ q)
    have k3 : ∀ c o, a2.get? c = some o → a5.get? c = some o := fun c o q => k4 c o (by rw [← e3]; exact Heap.get?_push_of_some _ q)
    have k2 : ∀ c o, a1.get? c = some o → a5.get? c = some o := fun c o q => k3 c o (by rw [← e2]; exact Heap.get?_push_of_some _ q)
    have k1 : ∀ c o, hp.get? c = some o → a5.get? c = some o := fun c o q => k2 c o (by rw [← e1]; exact Heap.get?_push_of_some _ q)
    refine h a5 ?_ ?_ ?_ ?_ ?_ k1
    · have := Heap.get?_push_size a4 (o := { cls := .type "zip", data := .fields #[.none, .bool false, .bool false, .ref (hp.objs.size + 2), .ref (hp.objs.size + 3)] }) rfl
      rw [z4] at this; rw [← e5]; exact this
    · have := Heap.get?_push_size a2 (o := { cls := .type "tuple", data := .seq #[.ref hp.objs.size, .ref (hp.objs.size + 1)] }) rfl
      rw [z2] at this; exact k4 _ _ (by rw [← e3]; exact this)
    · have := Heap.get?_push_size a3 (o := { cls := .type "tuple", data := .seq #[.none, .none] }) rfl
      rw [z3] at this; exact k5 _ _ (by rw [← e4]; exact this)
    · have := Heap.get?_push_size hp (o := { cls := .type "tuple_iterator", data := .fields #[.ref l1, .int 0 0] }) rfl
      exact ⟨_, k2 _ _ (by rw [← e1]; exact this), rfl, rfl⟩
    · have := Heap.get?_push_size a1 (o := { cls := .type "tuple_iterator", data := .fields #[.ref l2, .int 0 0] }) rfl
      rw [z1] at this; exact ⟨_, k3 _ _ (by rw [← e2]; exact this), rfl, rfl⟩

/-- the tuples at a and b, the items in new pairs -/
def ItzT (K : PySem.W.Frag) (a b : Addr) : It :=
  ⟨fun i H => ∃ (xs ys : List V) (x y : V), SqT K H a xs ∧ SqT K H b ys ∧ xs[i]? = some x ∧ ys[i]? = some y,
    fun i H v H' => ∃ T x y, v = .ref T ∧ H T = none ∧ H' = upd H T (.tup [x, y]) ∧ (∀ xs, SqT K H a xs → xs[i]? = some x) ∧ ∀ ys, SqT K H b ys → ys[i]? = some y,
    fun i H => ∃ xs ys : List V, SqT K H a xs ∧ SqT K H b ys ∧ (xs.length ≤ i ∨ ys.length ≤ i)⟩
theorem turnZipT {P : Program} {w : World} {K : PySem.W.Frag} {elts : List Expr} {kk : Nat} {tpos : Pos} {a b z TI TO i1 i2 : Addr} (D : ZipApart z TI TO i1 i2 a b) :
    Turn P w K (.Tuple elts kk tpos) (ItzT K a b) [z, TI, TO, i1, i2] z (fun i h => IsZip h z TI TO .none ∧ IsPair h TI (.ref i1) (.ref i2) ∧ (∃ x y, IsPair h TO x y) ∧ h.IsTupleIter i1 a i ∧ h.IsTupleIter i2 b i) where
  mem := by simp
  obj := fun i h st c hc => by
    obtain ⟨hz, hTI, ⟨x, y, hTO⟩, ⟨o1, e1, _, d1⟩, ⟨o2, e2, _, d2⟩⟩ := st
    have e' : c = z ∨ c = TI ∨ c = TO ∨ c = i1 ∨ c = i2 := by simpa using hc
    rcases e' with q | q | q | q | q
    · rw [q]; exact ⟨_, hz, fun v q => nomatch q⟩
    · rw [q]; exact ⟨_, hTI, fun v q => nomatch q⟩
    · rw [q]; exact ⟨_, hTO, fun v q => nomatch q⟩
    · rw [q]; exact ⟨o1, e1, fun v q => by rw [d1] at q; cases q⟩
    · rw [q]; exact ⟨o2, e2, fun v q => by rw [d2] at q; cases q⟩
  keep := fun i h h' st k => by
    obtain ⟨hz, hTI, ⟨x, y, hTO⟩, h1, h2⟩ := st
    exact ⟨k z (by simp) _ hz, k TI (by simp) _ hTI, ⟨x, y, k TO (by simp) _ hTO⟩, h1.at fun o q => k i1 (by simp) o q, h2.at fun o q => k i2 (by simp) o q⟩
  item := by
    intro X hP hw hK hc i pins s σ H E I hf st hg
    subst hP hw hK
    obtain ⟨hz, hTI, ⟨x0, y0, hTO⟩, h1, h2⟩ := st
    obtain ⟨xs, ys, x, y, hqx, hqy, hx, hy⟩ := hg
    obtain ⟨its, rv, p, _⟩ := I.tuple hqx
    obtain ⟨its2, rv2, p2, _⟩ := I.tuple hqy
    obtain ⟨u, hu, ru⟩ := rv.get hx
    obtain ⟨u2, hu2, ru2⟩ := rv2.get hy
    have hzl : z < s.heap.objs.size := Heap.lt_size hz
    have hT : s.TypeIs (.ref z) "zip" := ⟨_, hz, rfl⟩
    unfold pyNext
    refine wpAny_bind (wpAny_attempt (wpAny_callSpecial?_slot (name := Str.ofString "__next__") hT PySem.F.slot_zip_next (wpAny_call_entry PySem.F.slot_zip_next hT PySem.F.entry_zip_next ?_ (PySem.F.args_zip_next_1 _))))
    refine zipNextT D hz hTI hTO h1 h2 (show s.heap.IsTuple a its.toArray from p) (show s.heap.IsTuple b its2.toArray from p2) (x := u) (y := u2) (by simpa using hu) (by simpa using hu2) fun h' z' TO' h1' h2' hT hsz hk => wpAny_pure ?_
    refine ⟨_, rfl, wpAny_letOwnedTupleGo_zip (s := { s with heap := h' }) z' fun h'' z'' sb => ?_⟩
    have hT2 : h''.get? s.heap.objs.size = some { cls := .type "tuple", data := .seq #[u, u2] } := (sb.2 _ (Nat.ne_of_gt hzl)).trans hT
    have new : ObjOk X.prog X.w (upd H s.heap.objs.size (.tup [x, y])) h'' s.heap.objs.size (.tup [x, y]) :=
      ⟨by show 2 ≤ sizeLine; decide, [u, u2], .cons ru (.cons ru2 .nil), ⟨_, hT2, rfl, _, rfl⟩⟩
    have I1 : Inv X pins σ (upd H s.heap.objs.size (.tup [x, y])) { s with heap := h'' } :=
      I.turnedNew (t' := s.toks) (ch := [z, TI, TO, i1, i2]) (fun c o hb q => (sb.2 c (fun q' => hb (by simp [q']))).trans (hk c o (fun q' => hb (by simp [q'])) (fun q' => hb (by simp [q'])) (fun q' => hb (by simp [q'])) (fun q' => hb (by simp [q'])) q)) hf (Nat.le_refl _) new
    refine ⟨.ref s.heap.objs.size, _, I1, rfl, ⟨_, x, y, rfl, I.hok.fresh (Nat.le_refl _), rfl, fun l hl => by rw [I.tuple_inj hl hqx]; exact hx, fun l hl => by rw [I.tuple_inj hl hqy]; exact hy⟩, ⟨z'', ?_, ⟨u, u2, ?_⟩, ?_, ?_⟩, fun c hcm => ?_⟩
    · exact (sb.2 _ D.TIz).trans (hk _ _ D.TIz D.TITO D.TIi1 D.TIi2 hTI)
    · exact (sb.2 _ D.TOz).trans TO'
    · exact h1'.at fun o q => (sb.2 _ D.i1z).trans q
    · exact h2'.at fun o q => (sb.2 _ D.i2z).trans q
    · have hlt : c < s.heap.objs.size := by
        have e' : c = z ∨ c = TI ∨ c = TO ∨ c = i1 ∨ c = i2 := by simpa using hcm
        rcases e' with q | q | q | q | q
        · rw [q]; exact hzl
        · rw [q]; exact Heap.lt_size hTI
        · rw [q]; exact Heap.lt_size hTO
        · rw [q]; obtain ⟨_, e1, _⟩ := h1; exact Heap.lt_size e1
        · rw [q]; obtain ⟨_, e2, _⟩ := h2; exact Heap.lt_size e2
      rw [upd_ne (Nat.ne_of_lt hlt)]
      exact (hf c hcm).1
  done := by
    intro X hP hw hK hc i pins s σ H E I hf st hg
    subst hP hw hK
    obtain ⟨hz, hTI, ⟨x0, y0, hTO⟩, h1, h2⟩ := st
    obtain ⟨xs, ys, hqx, hqy, hend⟩ := hg
    obtain ⟨its, rv, p, _⟩ := I.tuple hqx
    obtain ⟨its2, rv2, p2, _⟩ := I.tuple hqy
    have l1 := rv.length
    have l2 := rv2.length
    have he : its.toArray[i]? = none ∨ its2.toArray[i]? = none := by
      rcases hend with q | q
      · exact .inl (by simp; omega)
      · exact .inr (by simp; omega)
    have hT : s.TypeIs (.ref z) "zip" := ⟨_, hz, rfl⟩
    unfold pyNext
    refine wpAny_bind (wpAny_attempt (wpAny_callSpecial?_slot (name := Str.ofString "__next__") hT PySem.F.slot_zip_next (wpAny_call_entry PySem.F.slot_zip_next hT PySem.F.entry_zip_next ?_ (PySem.F.args_zip_next_1 _))))
    refine zipEndT (I.ok.hd hc) D hz hTI hTO h1 h2 (show s.heap.IsTuple a its.toArray from p) (show s.heap.IsTuple b its2.toArray from p2) he fun h' e hk he => ?_
    obtain ⟨o, ho, hc'⟩ := he
    exact wpAny_bind (wpAny_isInstance (T := "StopIteration") (b := true) ⟨o, ho, hc'⟩ isSubtype_stop (wpAny_pure ⟨rfl, I.turnedL (t' := s.toks) (ch := [z, TI, TO, i1, i2]) (fun c o hb q => hk c o (fun q' => hb (by simp [q'])) (fun q' => hb (by simp [q'])) (fun q' => hb (by simp [q'])) (fun q' => hb (by simp [q'])) q) hf⟩))
  self := fun A i s Q E st h => wpAny_pyIter_zip st.1 h
def iZipT (K : PySem.W.Frag) (ta : TA) : TI := fun σ H R => ta σ H fun vs H1 => ∃ a b xs ys, vs = [.ref a, .ref b] ∧ SqT K H1 a xs ∧ SqT K H1 b ys ∧ R (ItzT K a b) H1
theorem pi_zipT {X : Cx} {e e2 : Expr} {ta : TA} {p pos tpos : Pos} {elts : List Expr} {kk : Nat} (hg : Gl X "zip") (hm : X.mg "zip" = none) (ha : PA X [e, e2] ta)
    (hs : starEach [e, e2] X.env = (false, eval e X.env) :: starEach [e2] X.env := by rfl) (hpl : (backTo pos (starEach [e2] X.env)).any (·.1) = false := by rfl) :
    PI X (.Tuple elts kk tpos) (.Call (.Name "zip" p) [e, e2] [] pos) (iZipT X.K ta) := by
  intro pins s σ H R I h
  refine Call_ (ld_blt I hg hm boot_zip5 (PyProof.Rows.callWith_type1 (thn (ha pos pins s σ H _ I h) fun us s1 ⟨vs, H1, I1, r1, q1⟩ => ?_) hs hpl))
  obtain ⟨a, b, xs, ys, ex, hqx, hqy, q⟩ := q1
  subst ex
  cases r1 with
  | cons r rr =>
    cases rr with
    | cons r' rr =>
      cases rr
      cases r
      cases r'
      obtain ⟨its, rv, p1, _⟩ := I1.tuple hqx
      obtain ⟨its2, rv2, p2, _⟩ := I1.tuple hqy
      have la : a < s1.heap.objs.size := p1.lt
      have lb : b < s1.heap.objs.size := p2.lt
      refine callType_new PySem.F.called_zip (by decide) (PySem.F.typeCall_zip_2 _ _) (PySem.F.newCall_zip_2 _ _) (fun obj => PySem.F.args_object_init_3 obj _ _) PySem.F.entry_zip_new (zipNewT a b its.toArray its2.toArray) ⟨p1, p2, fun h' hz hTI hTO h1 h2 hk => ⟨⟨_, hz, rfl⟩, wpAny_pyIter_zip hz ?_⟩⟩
      have I2 : Inv X pins σ H1 { s1 with heap := h' } := I1.kept (t' := s1.toks) hk
      refine ⟨s1.heap.objs.size + 4, [s1.heap.objs.size + 4, s1.heap.objs.size + 2, s1.heap.objs.size + 3, s1.heap.objs.size, s1.heap.objs.size + 1], _, _, H1, rfl, I2, turnZipT (PySem.W.ktu_apart s1.heap.objs.size a b la lb), ⟨hz, hTI, ⟨_, _, hTO⟩, h1, h2⟩, fun c hcm => ?_, q⟩
      have e' : c = s1.heap.objs.size + 4 ∨ c = s1.heap.objs.size + 2 ∨ c = s1.heap.objs.size + 3 ∨ c = s1.heap.objs.size ∨ c = s1.heap.objs.size + 1 := by simpa using hcm
      have hle : s1.heap.objs.size ≤ c := by
        rcases e' with z | z | z | z | z
        · rw [z]; exact Nat.le_add_right _ _
        · rw [z]; exact Nat.le_add_right _ _
        · rw [z]; exact Nat.le_add_right _ _
        · rw [z]; exact Nat.le_refl _
        · rw [z]; exact Nat.le_add_right _ _
      exact I1.fpOk hle (I1.hok.fresh hle)
end L2.Lw

set_option Elab.async false
set_option linter.all false
set_option maxRecDepth 100000
namespace L2.Lw
open PySem PySem.Spec PyProof.Rows

/-! ### a def that can be called by its name, by what it promises -/
structure Cal (P : Program) (w : World) (K : PySem.W.Frag) (mg : Str → Option Value) (base : Heap) (x : Str) (k : Nat) (ps : List Str) (sp : Sp) (B : FuncData → Prop) : Prop where
  ex : ∃ (f : Addr) (fd : FuncData), FnOk P w K mg base CX0 k f fd ps sp ∧ mg x = some (.ref f) ∧ PySem.W.keepIn K (.ref f) = true ∧ B fd
/-- all by place -/
abbrev Pla (K : PySem.W.Frag) (ps : List Str) : FuncData → Prop := fun fd => Binds K fd ps []
/-- a def of the text as the top has left it -/
structure Dfn (K : PySem.W.Frag) (mg : Str → Option Value) (x : Str) (st : Stmt) (ps : List Str) : Prop where
  ex : ∃ (f : Addr) (fd : FuncData), Fun K x x st f fd ∧ mg x = some (.ref f) ∧ Binds K fd ps []
section
variable {P : Program} {w : World} {K : PySem.W.Frag} {mg : Str → Option Value} {base : Heap}
theorem Dfn.ok {x : Str} {st : Stmt} {N ps : List Str} {k : Nat} {sp : Sp} (d : Dfn K mg x st ps) (S : FnScope N ps (defScope st)) (len : ∀ vs H Q E, sp vs H Q E → vs.length = ps.length)
    (hbody : ∀ (f : Addr) (cdv : Value) (A : Around) (outer : List Env) (s : Shared) (H : Hp) (vs : List V) (Q : VK) (E : XK), Room k (A.deeper (envOfC x (defScope st) s.heap.objs.size f cdv)) → sp vs H Q E →
      ∃ t, PSs (cxOf CX0 P w K mg base N x (defScope st) f cdv A outer s H E).nox (defBody st) t ∧ t { nx := fun _ H' => Q .non H', rt := Q } (start N vs) H) : Cal P w K mg base x (k + 1) ps sp (Pla K ps) := by
  obtain ⟨f, fd, F, m, b⟩ := d.ex
  exact ⟨f, fd, F.ok S len (fun cdv A outer s H vs Q E hr h => hbody f cdv A outer s H vs Q E hr h), m, F.kp, b⟩
theorem Cal.imp {x : Str} {ps : List Str} {k : Nat} {sp sp' : Sp} {B : FuncData → Prop} (c : Cal P w K mg base x k ps sp B) (h : ∀ vs H Q E, sp' vs H Q E → sp vs H Q E) : Cal P w K mg base x k ps sp' B := by
  obtain ⟨f, fd, F, r⟩ := c.ex; exact ⟨f, fd, F.imp h, r⟩
theorem Cal.mono {x : Str} {ps : List Str} {j k : Nat} {sp : Sp} {B : FuncData → Prop} (c : Cal P w K mg base x j ps sp B) (h : j ≤ k) : Cal P w K mg base x k ps sp B := by
  obtain ⟨f, fd, F, r⟩ := c.ex; exact ⟨f, fd, F.mono h, r⟩
end
section
variable {X : Cx} {x : Str} {k : Nat} {ps : List Str} {sp : Sp} {p pos : Pos} {e : Expr} {es : List Expr} {t tk : TA}
/-- x(e, ..) -/
theorem pcall (c : Cal X.prog X.w X.K X.mg X.base x k ps sp (Pla X.K ps)) (hr : Room k X.A) (ha : PA X (e :: es) t) (hg : Gl X x := by rfl) (hdb : (x == ("__debug__" : Str)) = false := by decide)
    (he : starEach (e :: es) X.env = (false, eval e X.env) :: starEach es X.env := by rfl) (hpl : (backTo pos (starEach es X.env)).any (·.1) = false := by rfl) : PE X (.Call (.Name x p) (e :: es) [] pos) (tCall sp [] E0 t) := by
  obtain ⟨f, fd, F, m, kp, b⟩ := c.ex
  exact pe_call F hr hg m kp b .nil pass0 ha hdb he hpl
end

/-- a def with a keyword-only last parameter that has a default in the dict at kd -/
structure FunK (K : PySem.W.Frag) (x qual : Str) (st : Stmt) (f kd : Addr) (fd : FuncData) : Prop where
  ex : ∃ (oc : Value) (od : Option Addr) (doc pm : Value) (an : Option Addr) (cdv ct : Value) (osl : Array (Option Value)),
    fd = PySem.W.fnOf x qual (defArgs st) (defBody st) (defScope st) .none (.ref kd) doc pm an cdv ct ∧ K.lookup f = some ⟨oc, od, .func fd, osl⟩ ∧ PySem.W.codeIn K cdv qual = true
  kp : PySem.W.keepIn K (.ref f) = true
theorem FunK.fun {K : PySem.W.Frag} {x qual : Str} {st : Stmt} {f kd : Addr} {fd : FuncData} (F : FunK K x qual st f kd fd) : Fun K x qual st f fd := by
  obtain ⟨oc, od, doc, pm, an, cdv, ct, osl, e, l, c⟩ := F.ex
  exact ⟨⟨oc, od, _, doc, pm, an, cdv, ct, osl, e, l, c⟩, F.kp⟩
/-! ### heaps -/
/-- all but what stands at b is as it was -/
def But (b : Addr) (H H' : Hp) : Prop := ∀ c o, H c = some o → c ≠ b → H' c = some o
theorem But.refl (b : Addr) (H : Hp) : But b H H := fun _ _ h _ => h
theorem But.trans {b : Addr} {H H1 H2 : Hp} (x : But b H H1) (y : But b H1 H2) : But b H H2 := fun c o h n => y c o (x c o h n) n
theorem But.of {b : Addr} {H H' : Hp} (x : Same H H') : But b H H' := fun c o h _ => x c o h
theorem Same.new {H : Hp} {p : Addr} {o : HO} (h : H p = none) : Same H (upd H p o) := fun c u e => by rw [upd_ne (ne_of_none e h)]; exact e
theorem But.upd {H : Hp} {b : Addr} {o : HO} : But b H (upd H b o) := fun c u e n => by rw [upd_ne n]; exact e
theorem But.seq {K : PySem.W.Frag} {b a : Addr} {H H' : Hp} {xs : List V} (x : But b H H') (h : SqL K H a xs) (n : a ≠ b) : SqL K H' a xs := by
  rcases h with (h | ⟨o, h⟩) | h
  · exact .inl (.inl (x _ _ h n))
  · exact .inl (.inr ⟨o, x _ _ h n⟩)
  · exact .inr h
theorem Same.tup {K : PySem.W.Frag} {a : Addr} {H H' : Hp} {xs : List V} (x : Same H H') (h : SqT K H a xs) : SqT K H' a xs := by
  rcases h with (h | ⟨o, h⟩) | h
  · exact .inl (.inl (x _ _ h))
  · exact .inl (.inr ⟨o, x _ _ h⟩)
  · exact .inr h
/-- the int at a place of a list of ints -/
theorem int_at {ns : List Int} {i : Nat} {y : V} (h : (ns.map V.int)[i]? = some y) : ∃ z, y = V.int z ∧ ns[i]? = some z := by
  rw [List.getElem?_map] at h
  cases e : ns[i]? with
  | none => rw [e] at h; cases h
  | some z => rw [e] at h; exact ⟨z, (Option.some.inj h).symm, rfl⟩
end L2.Lw
namespace L2.Lw
open PySem PySem.Spec PyProof.Rows
/-! ### where ways meet: what holds behind a statement -/
def tCut (R : St → Hp → Prop) (t : TS) : TS := fun D σ H => t { D with nx := R } σ H ∧ ∀ σ' H', R σ' H' → D.nx σ' H'
theorem ps_cut {X : Cx} {st : Stmt} {t : TS} (R : St → Hp → Prop) (h : PS X st t) : PS X st (tCut R t) := by
  intro pins s σ H D I q
  refine thn (h pins s σ H { D with nx := R } I q.1) fun f s1 z => ?_
  cases f with
  | next => obtain ⟨σ', H', I', r⟩ := z; exact ⟨σ', H', I', q.2 σ' H' r⟩
  | brk => exact z
  | cont => exact z
  | ret v => exact z
/-- the built-ins that the text leaves alone -/
structure Bi (mg : Str → Option Value) : Prop where
  len : mg "len" = none
  range : mg "range" = none
  list : mg "list" = none
  tuple : mg "tuple" = none
  any : mg "any" = none
  all : mg "all" = none
  max : mg "max" = none
  min : mg "min" = none
  isinstance : mg "isinstance" = none
  enumerate : mg "enumerate" = none
  zip : mg "zip" = none
  int : mg "int" = none
  bool : mg "bool" = none
  str : mg "str" = none
end L2.Lw

set_option Elab.async false
set_option linter.all false
set_option maxRecDepth 100000
namespace L2.Lw
open PySem PySem.Spec PyProof.Rows

/-! ### a comprehension with one name and no test, whose items come by F and which leaves all else -/
theorem wipe1 (σ : St) (j : Nat) (x : Option V) : wipe ((wipe σ [j]).set j x) [j] = wipe σ [j] := by
  show ((σ.set j none).set j x).set j none = σ.set j none
  rw [List.set_set, List.set_set]
section
variable {K : PySem.W.Frag} {a : Addr} {xs : List V} {te : TE} {j : Nat} {σ : St} {H1 : Hp} {D : Addr} {Qd : Hp → Prop}
theorem mapR_succ (F : Nat → V) (i : Nat) : (List.range (i + 1)).map F = (List.range i).map F ++ [F i] := by rw [List.range_succ, List.map_append]; rfl
/-- what holds between two turns -/
def LcAt (F : Nat → V) (H1 : Hp) (D : Addr) (i : Nat) (H : Hp) : Prop := Same H1 H ∧ H D = some (.lst ((List.range i).map F))
theorem LcAt.start {F : Nat → V} (hD : H1 D = none) : LcAt F H1 D 0 (upd H1 D (.lst [])) := ⟨Same.new hD, upd_same⟩
theorem LcAt.turn {F : Nat → V} {i : Nat} {H H4 : Hp} (hD : H1 D = none) (p : LcAt F H1 D i H) (s : Same H H4) (hn : i < 100000) :
    ∃ acc, H4 D = some (.lst acc) ∧ acc.length < sizeLine ∧ LcAt F H1 D (i + 1) (upd H4 D (.lst (acc ++ [F i]))) := by
  refine ⟨_, s _ _ p.2, ?_, fun b o e => ?_, ?_⟩
  · rw [List.length_map, List.length_range]; exact Nat.lt_trans hn (by decide)
  · rw [upd_ne (ne_of_none e hD)]; exact s _ _ (p.1 _ _ e)
  · rw [upd_same, mapR_succ]
theorem lcN_list (F : Nat → V) (hl : SqL K H1 a xs) (hD : H1 D = none) (hn : xs.length ≤ 100000)
    (hs : ∀ (i : Nat) (x : V) (H : Hp) (Q : VK), xs[i]? = some x → Same H1 H → (∀ H4, Same H H4 → Q (F i) H4) → te ((wipe σ [j]).set j (some x)) H Q) (hd : ∀ H, Same H1 H → H D = some (.lst ((List.range xs.length).map F)) → Qd H) :
    ∃ W : Nat → Nat → Hp → Prop, (∃ m, W 0 m (upd H1 D (.lst []))) ∧ ∀ i m H, W i m H →
      ((Itl K a).stop i H ∧ Qd H) ∨ ((Itl K a).go i H ∧ ∃ Nx : Hp → Prop, (∀ H', Nx H' → ∃ m', m' < m ∧ W (i + 1) m' H') ∧ ∀ x H', (Itl K a).yld i H x H' → gName j x (wipe σ [j]) H' fun σ2 H2 => wipe σ2 [j] = wipe σ [j] ∧ tYes σ2 H2 fun b H3 =>
        if b = true then te σ2 H3 fun y H4 => ∃ acc, H4 D = some (.lst acc) ∧ acc.length < sizeLine ∧ Nx (upd H4 D (.lst (acc ++ [y]))) else Nx H3) := by
  refine lc_list (K := K) (a := a) (xs := xs) (LcAt F H1 D) (LcAt.start hD) (fun i H _ p => p.1.seq hl) (fun i x H hx p => ⟨wipe1 σ j _, ?_⟩) fun H p => hd H p.1 p.2
  have hi : i < xs.length := (List.getElem?_eq_some_iff.mp hx).1
  show if true = true then te ((wipe σ [j]).set j (some x)) H (fun y H4 => ∃ acc, H4 D = some (.lst acc) ∧ acc.length < sizeLine ∧ LcAt F H1 D (i + 1) (upd H4 D (.lst (acc ++ [y])))) else LcAt F H1 D (i + 1) H
  rw [if_pos rfl]
  exact hs i x H _ hx p.1 fun H4 s => LcAt.turn hD p s (by omega)
theorem lcN_tup (F : Nat → V) (hl : SqT K H1 a xs) (hD : H1 D = none) (hn : xs.length ≤ 100000)
    (hs : ∀ (i : Nat) (x : V) (H : Hp) (Q : VK), xs[i]? = some x → Same H1 H → (∀ H4, Same H H4 → Q (F i) H4) → te ((wipe σ [j]).set j (some x)) H Q) (hd : ∀ H, Same H1 H → H D = some (.lst ((List.range xs.length).map F)) → Qd H) :
    ∃ W : Nat → Nat → Hp → Prop, (∃ m, W 0 m (upd H1 D (.lst []))) ∧ ∀ i m H, W i m H →
      ((Itt K a).stop i H ∧ Qd H) ∨ ((Itt K a).go i H ∧ ∃ Nx : Hp → Prop, (∀ H', Nx H' → ∃ m', m' < m ∧ W (i + 1) m' H') ∧ ∀ x H', (Itt K a).yld i H x H' → gName j x (wipe σ [j]) H' fun σ2 H2 => wipe σ2 [j] = wipe σ [j] ∧ tYes σ2 H2 fun b H3 =>
        if b = true then te σ2 H3 fun y H4 => ∃ acc, H4 D = some (.lst acc) ∧ acc.length < sizeLine ∧ Nx (upd H4 D (.lst (acc ++ [y]))) else Nx H3) := by
  refine lc_tup (K := K) (a := a) (xs := xs) (LcAt F H1 D) (LcAt.start hD) (fun i H _ p => Same.tup p.1 hl) (fun i x H hx p => ⟨wipe1 σ j _, ?_⟩) fun H p => hd H p.1 p.2
  have hi : i < xs.length := (List.getElem?_eq_some_iff.mp hx).1
  show if true = true then te ((wipe σ [j]).set j (some x)) H (fun y H4 => ∃ acc, H4 D = some (.lst acc) ∧ acc.length < sizeLine ∧ LcAt F H1 D (i + 1) (upd H4 D (.lst (acc ++ [y])))) else LcAt F H1 D (i + 1) H
  rw [if_pos rfl]
  exact hs i x H _ hx p.1 fun H4 s => LcAt.turn hD p s (by omega)
end

theorem map_getD {β : Type} (l : List Int) (F : Int → β) : (List.range l.length).map (fun k => F (l.getD k 0)) = l.map F := by
  apply List.ext_getElem
  · simp
  · intro n h1 h2
    have hn : n < l.length := by simpa using h1
    simp [List.getD_eq_getElem?_getD, hn]
section
variable {K : PySem.W.Frag} {a : Addr} {ms : List Int} {te : TE} {j : Nat} {σ : St} {H1 : Hp} {D : Addr} {Qd : Hp → Prop}
theorem getD_of {i : Nat} {z : Int} (h : ms[i]? = some z) : ms.getD i 0 = z := by rw [List.getD_eq_getElem?_getD, h]; rfl
theorem lcI_tup (F : Int → V) (hl : SqT K H1 a (ms.map V.int)) (hD : H1 D = none) (hn : ms.length ≤ 100000)
    (hs : ∀ (z : Int) (H : Hp) (Q : VK), z ∈ ms → Same H1 H → (∀ H4, Same H H4 → Q (F z) H4) → te ((wipe σ [j]).set j (some (.int z))) H Q) (hd : ∀ H, Same H1 H → H D = some (.lst (ms.map F)) → Qd H) :
    ∃ W : Nat → Nat → Hp → Prop, (∃ m, W 0 m (upd H1 D (.lst []))) ∧ ∀ i m H, W i m H →
      ((Itt K a).stop i H ∧ Qd H) ∨ ((Itt K a).go i H ∧ ∃ Nx : Hp → Prop, (∀ H', Nx H' → ∃ m', m' < m ∧ W (i + 1) m' H') ∧ ∀ x H', (Itt K a).yld i H x H' → gName j x (wipe σ [j]) H' fun σ2 H2 => wipe σ2 [j] = wipe σ [j] ∧ tYes σ2 H2 fun b H3 =>
        if b = true then te σ2 H3 fun y H4 => ∃ acc, H4 D = some (.lst acc) ∧ acc.length < sizeLine ∧ Nx (upd H4 D (.lst (acc ++ [y]))) else Nx H3) := by
  refine lcN_tup (xs := ms.map V.int) (fun i => F (ms.getD i 0)) hl hD (by simpa using hn) (fun i x H Q hx s1 q => ?_) fun H s1 e => hd H s1 ?_
  · obtain ⟨z, rfl, hz⟩ := int_at hx
    refine hs z H Q (List.mem_of_getElem? hz) s1 fun H4 s4 => ?_
    have := q H4 s4; rw [getD_of hz] at this; exact this
  · rw [e, List.length_map, map_getD ms F]
end

theorem yes_if {σ : St} {H : Hp} {f g : Bool → Hp → Prop} (h : f true H) : tYes σ H fun b H3 => if b = true then f b H3 else g b H3 := by
  show if true = true then f true H else g true H
  rw [if_pos rfl]; exact h
section
variable {X : Cx} (K : PySem.W.Frag)
theorem ixL (h : X.K = K := by rfl) : IxR X (rIxL K) := h ▸ ix_list
theorem ixT (h : X.K = K := by rfl) : IxR X (rIxT K) := h ▸ ix_tup
theorem slL (h : X.K = K := by rfl) : SlR X (rSlL K) := h ▸ sl_list
theorem slT (h : X.K = K := by rfl) : SlR X (rSlT K) := h ▸ sl_tup
theorem lenS (h : X.K = K := by rfl) : CallR X (.builtin "len") (fun xs H Q => ∃ p ys, xs = [.ref p] ∧ (SqL K H p ys ∨ SqT K H p ys) ∧ Q (.int ys.length) H) := h ▸ call_len_seq
theorem tupO (h : X.K = K := by rfl) : CallR X (.type "tuple") (fun xs H Q => ∃ p ys, xs = [.ref p] ∧ ((SqL K H p ys ∧ ∀ l, H l = none → Q (.ref l) (upd H l (.tup ys))) ∨ (SqT K H p ys ∧ Q (.ref p) H))) := h ▸ call_tuple_of
theorem anyK (h : X.K = K := by rfl) (hc : X.calm = true := by rfl) : CallR X (.builtin "any") (rAny K) := h ▸ cr_any hc
theorem allK (h : X.K = K := by rfl) (hc : X.calm = true := by rfl) : CallR X (.builtin "all") (rAll K) := h ▸ cr_all hc
theorem inK (h : X.K = K := by rfl) : OpR X (compareOp .In) (rIn K false) := h ▸ op_in_seq
theorem catA (h : X.K = K := by rfl) : OpR X (binaryOp .Add) (rCatA K) := h ▸ op_catA
theorem repT (h : X.K = K := by rfl) : OpR X (binaryOp .Mult) (rRepT K) := h ▸ op_repT
theorem piL {tg l : Expr} {tl : TE} (hl : PE X l tl) (h : X.K = K := by rfl) : PI X tg l (iList K tl) := h ▸ pi_list hl
theorem piT {tg l : Expr} {tl : TE} (hl : PE X l tl) (h : X.K = K := by rfl) : PI X tg l (iTup K tl) := h ▸ pi_tup hl
end

/-! ### residues without noughts at the end -/
def trim : List Int → List Int
  | [] => []
  | x :: r => if x = 0 ∧ trim r = [] then [] else x :: trim r
theorem trim_cons (x : Int) (r : List Int) : trim (x :: r) = if x = 0 ∧ trim r = [] then [] else x :: trim r := rfl
theorem trim_take : ∀ ns : List Int, ns.take (trim ns).length = trim ns
  | [] => rfl
  | x :: r => by
    rw [trim_cons]; split
    · rfl
    · rw [List.length_cons, List.take_succ_cons, trim_take r]
theorem trim_mem {ns : List Int} {x : Int} (h : x ∈ trim ns) : x ∈ ns := by
  rw [← trim_take ns] at h; exact List.mem_of_mem_take h
end L2.Lw

set_option Elab.async false
set_option linter.all false
set_option maxRecDepth 100000
namespace L2.Lw
open PySem PySem.Spec PyProof.Rows
theorem kit_int_bool (K : PySem.W.Frag) : PySem.W.kitOne K (.type "int") (.type "bool") = some false := by kernel_rfl
theorem kit_int_int (K : PySem.W.Frag) : PySem.W.kitOne K (.type "int") (.type "int") = some true := by kernel_rfl
theorem kit_int_str (K : PySem.W.Frag) : PySem.W.kitOne K (.type "int") (.type "str") = some false := by kernel_rfl
theorem kit_int_lt (K : PySem.W.Frag) : PySem.W.kitAny K (.type "int") [.type "list", .type "tuple"] = some false := by kernel_rfl
theorem kit_bool_bool (K : PySem.W.Frag) : PySem.W.kitOne K (.type "bool") (.type "bool") = some true := by kernel_rfl
theorem kit_bool_int (K : PySem.W.Frag) : PySem.W.kitOne K (.type "bool") (.type "int") = some true := by kernel_rfl
theorem kit_bool_str (K : PySem.W.Frag) : PySem.W.kitOne K (.type "bool") (.type "str") = some false := by kernel_rfl
theorem kit_bool_lt (K : PySem.W.Frag) : PySem.W.kitAny K (.type "bool") [.type "list", .type "tuple"] = some false := by kernel_rfl
theorem kit_str_str (K : PySem.W.Frag) : PySem.W.kitOne K (.type "str") (.type "str") = some true := by kernel_rfl
theorem kit_list_list (K : PySem.W.Frag) : PySem.W.kitOne K (.type "list") (.type "list") = some true := by kernel_rfl
theorem kit_list_lt (K : PySem.W.Frag) : PySem.W.kitAny K (.type "list") [.type "list", .type "tuple"] = some true := by kernel_rfl
theorem kit_tuple_list (K : PySem.W.Frag) : PySem.W.kitOne K (.type "tuple") (.type "list") = some false := by kernel_rfl
theorem kit_tuple_lt (K : PySem.W.Frag) : PySem.W.kitAny K (.type "tuple") [.type "list", .type "tuple"] = some true := by kernel_rfl
theorem pe_ty {X : Cx} {x : Str} {pos : Pos} (n : String) (hg : Gl X x) (hm : X.mg x = none) (hv : bootBuiltins x = some (.type n)) (hn : x ≠ "__name__" := by decide) (hd : (x == ("__debug__" : Str)) = false := by decide) : PE X (.Name x pos) (tC (.ty n)) := pe_bltn hg hm hv rfl hn hd
/-! ### (a, b) as a target, by the written part itself -/
theorem pgT {X : Cx} (K : PySem.W.Frag) (n : Nat) {es : List Expr} {k : Nat} {t : TGs} {pos : Pos} (hc : X.calm = true) (h : PGs X es t) (hK : X.K = K := by rfl) (hn : (assignEach es X.env).length = n := by rfl) (hst : (assignEach es X.env).findIdx? (·.1) = none := by rfl) :
    PG X (.Tuple es k pos) (gTup K n t) := hK ▸ pg_tup hc h hn hst
section
variable {K : PySem.W.Frag} {a b : Addr} {xs ys : List V} {te : TE} {i j : Nat} {σ : St} {H1 : Hp} {D : Addr} {Qd : Hp → Prop}
theorem LcAt.turn' {F : Nat → V} {n : Nat} {H H4 : Hp} {T : Addr} {o : HO} (hD : H1 D = none) (p : LcAt F H1 D n H) (hT : H T = none) (s : Same (upd H T o) H4) (hn : n < 100000) :
    ∃ acc, H4 D = some (.lst acc) ∧ acc.length < sizeLine ∧ LcAt F H1 D (n + 1) (upd H4 D (.lst (acc ++ [F n]))) := LcAt.turn hD p ((Same.new hT).trans s) hn
theorem lcZT (F : Nat → V) (hA : SqT K H1 a xs) (hB : SqT K H1 b ys) (hl : xs.length = ys.length) (hD : H1 D = none) (hn : xs.length ≤ 100000) (hw : ∀ x y, wipe (((wipe σ [i, j]).set i x).set j y) [i, j] = wipe σ [i, j])
    (hs : ∀ (n : Nat) (x y : V) (H : Hp) (Q : VK), xs[n]? = some x → ys[n]? = some y → Same H1 H → (∀ H4, Same H H4 → Q (F n) H4) → te (((wipe σ [i, j]).set i (some x)).set j (some y)) H Q) (hd : ∀ H, Same H1 H → H D = some (.lst ((List.range xs.length).map F)) → Qd H) :
    ∃ W : Nat → Nat → Hp → Prop, (∃ m, W 0 m (upd H1 D (.lst []))) ∧ ∀ n m H, W n m H →
      ((ItzT K a b).stop n H ∧ Qd H) ∨ ((ItzT K a b).go n H ∧ ∃ Nx : Hp → Prop, (∀ H', Nx H' → ∃ m', m' < m ∧ W (n + 1) m' H') ∧ ∀ x H', (ItzT K a b).yld n H x H' → gTup K 2 (gCons (gName i) (gCons (gName j) gNil)) x (wipe σ [i, j]) H' fun σ2 H2 => wipe σ2 [i, j] = wipe σ [i, j] ∧ tYes σ2 H2 fun b H3 =>
        if b = true then te σ2 H3 fun y H4 => ∃ acc, H4 D = some (.lst acc) ∧ acc.length < sizeLine ∧ Nx (upd H4 D (.lst (acc ++ [y]))) else Nx H3) := by
  refine ⟨fun n m H => m = xs.length - n ∧ n ≤ xs.length ∧ LcAt F H1 D n H, ⟨xs.length, by simp, Nat.zero_le _, LcAt.start hD⟩, ?_⟩
  rintro n m H ⟨rfl, hi, p⟩
  have qa := Same.tup p.1 hA
  have qb := Same.tup p.1 hB
  by_cases hlt : n < xs.length
  · have ex : xs[n]? = some xs[n] := by simp [hlt]
    have ey : ys[n]? = some (ys[n]'(by omega)) := by simp [hl ▸ hlt]
    refine .inr ⟨⟨xs, ys, _, _, qa, qb, ex, ey⟩, LcAt F H1 D (n + 1), fun H' p' => ⟨xs.length - (n + 1), by omega, rfl, hlt, p'⟩, fun v H' y => ?_⟩
    obtain ⟨T, x, y, rfl, hT, rfl, fx, fy⟩ := y
    refine ⟨T, _, rfl, SqT.of upd_same, rfl, x, _, rfl, y, _, rfl, rfl, hw _ _, yes_if ?_⟩
    exact hs n x y _ _ (fx xs qa) (fy ys qb) (p.1.trans (Same.new hT)) fun H4 s4 => LcAt.turn' hD p hT s4 (by omega)
  · have e : n = xs.length := by omega
    subst e
    exact .inl ⟨⟨xs, ys, qa, qb, .inl (Nat.le_refl _)⟩, hd H p.1 p.2⟩
theorem lcZL (F : Nat → V) (hA : SqL K H1 a xs) (hB : SqL K H1 b ys) (hl : xs.length = ys.length) (hD : H1 D = none) (hn : xs.length ≤ 100000) (hw : ∀ x y, wipe (((wipe σ [i, j]).set i x).set j y) [i, j] = wipe σ [i, j])
    (hs : ∀ (n : Nat) (x y : V) (H : Hp) (Q : VK), xs[n]? = some x → ys[n]? = some y → Same H1 H → (∀ H4, Same H H4 → Q (F n) H4) → te (((wipe σ [i, j]).set i (some x)).set j (some y)) H Q) (hd : ∀ H, Same H1 H → H D = some (.lst ((List.range xs.length).map F)) → Qd H) :
    ∃ W : Nat → Nat → Hp → Prop, (∃ m, W 0 m (upd H1 D (.lst []))) ∧ ∀ n m H, W n m H →
      ((Itz K a b).stop n H ∧ Qd H) ∨ ((Itz K a b).go n H ∧ ∃ Nx : Hp → Prop, (∀ H', Nx H' → ∃ m', m' < m ∧ W (n + 1) m' H') ∧ ∀ x H', (Itz K a b).yld n H x H' → gTup K 2 (gCons (gName i) (gCons (gName j) gNil)) x (wipe σ [i, j]) H' fun σ2 H2 => wipe σ2 [i, j] = wipe σ [i, j] ∧ tYes σ2 H2 fun b H3 =>
        if b = true then te σ2 H3 fun y H4 => ∃ acc, H4 D = some (.lst acc) ∧ acc.length < sizeLine ∧ Nx (upd H4 D (.lst (acc ++ [y]))) else Nx H3) := by
  refine ⟨fun n m H => m = xs.length - n ∧ n ≤ xs.length ∧ LcAt F H1 D n H, ⟨xs.length, by simp, Nat.zero_le _, LcAt.start hD⟩, ?_⟩
  rintro n m H ⟨rfl, hi, p⟩
  have qa := p.1.seq hA
  have qb := p.1.seq hB
  by_cases hlt : n < xs.length
  · have ex : xs[n]? = some xs[n] := by simp [hlt]
    have ey : ys[n]? = some (ys[n]'(by omega)) := by simp [hl ▸ hlt]
    refine .inr ⟨⟨xs, ys, _, _, qa, qb, ex, ey⟩, LcAt F H1 D (n + 1), fun H' p' => ⟨xs.length - (n + 1), by omega, rfl, hlt, p'⟩, fun v H' y => ?_⟩
    obtain ⟨T, x, y, rfl, hT, rfl, fx, fy⟩ := y
    refine ⟨T, _, rfl, SqT.of upd_same, rfl, x, _, rfl, y, _, rfl, rfl, hw _ _, yes_if ?_⟩
    exact hs n x y _ _ (fx xs qa) (fy ys qb) (p.1.trans (Same.new hT)) fun H4 s4 => LcAt.turn' hD p hT s4 (by omega)
  · have e : n = xs.length := by omega
    subst e
    exact .inl ⟨⟨xs, ys, qa, qb, .inl (Nat.le_refl _)⟩, hd H p.1 p.2⟩
end
end L2.Lw

set_option Elab.async false
set_option linter.all false
set_option maxRecDepth 100000
namespace L2.Lw
open PySem PySem.Spec PyProof.Rows
section
variable {prog : Program} {w : World} {A : Around} {E : Value → Shared → Prop} {s : Shared}
end
section
variable {X : Cx} {tg : Expr}
end
end L2.Lw

set_option Elab.async false
set_option linter.all false
set_option maxRecDepth 100000
namespace L2.Lw
open PySem PySem.Spec PyProof.Rows
theorem dpI (K : PySem.W.Frag) (H : Hp) : ∀ ns : List Int, DpAll K H (ns.map V.int) (ns.map PyData.int)
  | [] => .nil
  | x :: r => .cons (.int x) (dpI K H r)
theorem lay_ints : ∀ ns : List Int, PyData.canLayAll0 (ns.map PyData.int) = true
  | [] => rfl
  | x :: r => by rw [List.map_cons]; simp only [PyData.canLayAll0, lay_ints r, PyData.canLay0, Bool.and_self]
theorem depth_ints : ∀ ns : List Int, PyData.depthAll (ns.map PyData.int) ≤ 1
  | [] => by simp [PyData.depthAll]
  | x :: r => by rw [List.map_cons]; simp only [PyData.depthAll, PyData.depth]; have := depth_ints r; omega
theorem eqv_ints : ∀ a b : List Int, PyData.eqvAll (a.map PyData.int) (b.map PyData.int) = decide (a = b)
  | [], [] => by simp [PyData.eqvAll]
  | [], y :: s => by simp [PyData.eqvAll]
  | x :: r, [] => by simp [PyData.eqvAll]
  | x :: r, y :: s => by
    rw [List.map_cons, List.map_cons]
    simp only [PyData.eqvAll, PyData.eqv, eqv_ints r s]
    by_cases h : x = y
    · subst h; simp
    · simp [h]
end L2.Lw

set_option Elab.async false
set_option linter.all false
set_option maxRecDepth 100000
namespace L2.Lw
open PySem PySem.Spec PyProof.Rows
section
variable {X : Cx} {pos : Pos}
/-- a, b, c = x, y, z with plain local names -/
def tPar3 (i j k : Nat) (ta : TA) : TS := fun D σ H => ta σ H fun vs H1 => ∃ v w z, vs = [v, w, z] ∧ D.nx (((σ.set k (some z)).set j (some w)).set i (some v)) H1
theorem ps_par3 {i j k : Nat} {x y n : Str} {a b c : Expr} {ta : TA} {px py pn pt : Pos} {kt k2 pt2} (hc : X.calm = true) (hN : X.N.Nodup) (hi : X.N[i]? = some x) (hj : X.N[j]? = some y) (hk : X.N[k]? = some n)
    (hx : X.env.scope.names.lookup x = some .local) (hy : X.env.scope.names.lookup y = some .local) (hn : X.env.scope.names.lookup n = some .local) (ha : PA X [a, b, c] ta)
    (hw : swappedStores [.Tuple [.Name x px, .Name y py, .Name n pn] kt pt] (.Tuple [a, b, c] k2 pt2) X.env = pure (some [x, y, n]))
    (hs : swapsWithSole [.Tuple [.Name x px, .Name y py, .Name n pn] kt pt] (.Tuple [a, b, c] k2 pt2) pos.line X.env = pure false := by rfl) :
    PS X (.Assign [.Tuple [.Name x px, .Name y py, .Name n pn] kt pt] (.Tuple [a, b, c] k2 pt2) pos) (tPar3 i j k ta) := by
  intro pins s σ H D I h
  rw [exec_Assign_arm]
  refine wpAny_bind (wpAny_standAt ?_)
  rw [hs]
  refine wpAny_bind (wpAny_pure ?_)
  rw [if_neg (by decide)]
  refine wpAny_bind (Tuple_ (thn (ha _ pins s σ H _ I h) fun us s1 ⟨vs, H1, I1, r1, q1⟩ => ?_))
  obtain ⟨v, w, z, e1, q1⟩ := q1
  subst e1
  obtain ⟨u1, u2, u3, rfl, rv, rw', rz⟩ : ∃ u1 u2 u3, us = [u1, u2, u3] ∧ RelV v u1 ∧ RelV w u2 ∧ RelV z u3 := by
    cases r1 with
    | cons p q =>
      cases q with
      | cons p' q' =>
        cases q' with
        | cons p'' q'' =>
          cases q''
          exact ⟨_, _, _, rfl, p, p', p''⟩
  refine wpAny_newObj_type ?_ (by show 3 ≤ sizeLine; decide)
  have I2 : Inv X pins σ H1 { s1 with heap := s1.heap.push { cls := .type "tuple", data := .seq [u1, u2, u3].toArray } } := I1.kept (t' := s1.toks) fun b o e => Heap.get?_push_of_some _ e
  rw [hw]
  refine wpAny_bind (wpAny_pure ?_)
  show wpAny (model X.prog X.w) X.A (do rule "assign.swapped-stores"; let items ← unpackItems (.ref s1.heap.objs.size) 3 none; assignInOrder [fun v => bindName X.env n v, fun v => bindName X.env y v, fun v => bindName X.env x v] items.reverse; pure Flow.next) _ _ _
  refine wpAny_bind (wpAny_rule (wpAny_bind (unpackItems_tuple (items := #[u1, u2, u3]) (I.ok.hd hc) (IsTup.new s1.heap _) fun h' hx' => ?_)))
  have I3 := I2.kept (h' := h') (t' := s1.toks) fun b o e => hx' b o (Nat.ne_of_lt (Heap.lt_size e)) e
  show wpAny _ _ (assignInOrder [fun v => bindName X.env n v, fun v => bindName X.env y v, fun v => bindName X.env x v] [u3, u2, u1] >>= fun _ => pure Flow.next) _ _ _
  refine wpAny_bind (assignInOrder_cons (wpAny_bindName (store_ok I3 hN hk (.inl hn) rz (fun s2 I4 => ?_) (.inr hn))))
  refine assignInOrder_cons (wpAny_bindName (store_ok I4 hN hj (.inl hy) rw' (fun s3 I5 => ?_) (.inr hy)))
  exact assignInOrder_cons (wpAny_bindName (store_ok I5 hN hi (.inl hx) rv (fun s4 I6 => assignInOrder_nil (wpAny_pure ⟨_, H1, I6, q1⟩)) (.inr hx)))
end
end L2.Lw

set_option Elab.async false
set_option linter.all false
set_option maxRecDepth 100000
namespace L2.Lw
open PySem PySem.Spec PyProof.Rows
section
variable {X : Cx} (K : PySem.W.Frag)
end
end L2.Lw

set_option Elab.async false
set_option linter.all false
set_option maxRecDepth 100000
namespace L2.Lw
open PySem PySem.Spec PyProof.Rows
/-! ### an exception on its way -/
/-- the exception at e: its class, its own dict, its newest traceback entry at T -/
def FlD (h : Heap) (e : Addr) (cls : Value) (dd : Option Addr) (T : Addr) : Prop :=
  ∃ (oe : Obj) (vs : Array Value) (oT : Obj) (ts : Array Value), h.get? e = some oe ∧ oe.cls = cls ∧ oe.dict = dd ∧ oe.data = .fields vs ∧ vs[1]? = some (.ref T) ∧ T ≠ e ∧ h.get? T = some oT ∧ oT.data = .fields ts ∧ ts[3]? = some .none
/-- kept but for ex; the frames at fs up to their slots -/
structure Kp (fs ex : List Addr) (h h' : Heap) : Prop where
  keep : ∀ b o, h.get? b = some o → b ∉ fs → b ∉ ex → h'.get? b = some o
  slot : ∀ b o, h.get? b = some o → b ∉ ex → ∃ sl, h'.get? b = some { o with slots := sl }
  size : h.objs.size ≤ h'.objs.size
theorem Kp.trans {fs ex : List Addr} {h h1 h2 : Heap} (a : Kp fs ex h h1) (b : Kp fs ex h1 h2) : Kp fs ex h h2 :=
  ⟨fun c o q hf hx => b.keep c o (a.keep c o q hf hx) hf hx, fun c o q hx => by
    obtain ⟨sl, e1⟩ := a.slot c o q hx
    obtain ⟨sl', e2⟩ := b.slot c _ e1 hx
    exact ⟨sl', e2⟩, Nat.le_trans a.size b.size⟩
theorem mapF_dict (o : Obj) (f : Array Value → Array Value) : (o.mapFields f).dict = o.dict := by
  unfold Obj.mapFields; split <;> rfl
theorem push_get {h : Heap} {o : Obj} {b : Addr} {u : Obj} (e : h.get? b = some u) : (h.push o).get? b = some u := Heap.get?_push_of_some _ e
section
variable {Md : Model} {A : Around} {E : Value → Shared → Prop} {s : Shared}
theorem entryD {base : Heap} {env : Env} {outer : List Env} {L e : Addr} {oe : Obj} {vs : Array Value} {head : Value} {hn : Bool} {Q : Unit → Shared → Prop}
    (hfr : A.frames = some (env :: outer)) (hl : s.heap.FunFrames base (env :: outer)) (hf : env.frame = some L) (he : s.heap.get? e = some oe) (hd : oe.data = .fields vs) (hsz : 1 < vs.size)
    (h : ∀ (h' : Heap) (T : Addr), FlD h' e oe.cls oe.dict T → s.heap.objs.size ≤ T → Kp (frs (env :: outer)) [e] s.heap h' → Q () { s with heap := h' }) :
    wpAny Md A (do let a ← frameOf env; let pl ← entryPlaceOf L hn; let b ← EntryCells.newEntry head a .none (rawInt L) .none pl; setField (.ref e) 1 b) (fun _ s' => wpAny Md A (setFlight (.ref e) none) Q E s') E s := by
  have hene : e ∉ frs (env :: outer) := fun hm => by
    obtain ⟨_, o, ho, hnf⟩ := hl.mem hm
    rw [he] at ho; cases ho; exact hnf vs hd
  refine wpAny_bind (wpAny_frameOf_fun hfr hl hf fun g1 k1 => ?_)
  refine wpAny_bind (wpAny_entryPlaceOf fun pl hpl => ?_); unfold EntryCells.newEntry newFields
  refine wpAny_bind (wpAny_newObj_type ?_ (hpl.sizeOk5 head (.ref L) .none (rawInt L) .none))
  have e1 : g1.get? e = some oe := (k1.2.1 e hene).trans he
  obtain ⟨ne, hne⟩ : ∃ ne : Obj, ne = { cls := .type "traceback", dict := none, data := .fields ([head, .ref L, .none, rawInt L, .none] ++ (if pl.isEmpty then List.replicate 6 Value.none else pl)).toArray } := ⟨_, rfl⟩
  rw [← hne]
  have hT : g1.objs.size ≠ e := Nat.ne_of_gt (Heap.lt_size e1)
  refine wpAny_setField (push_get e1) hd hsz ?_
  have d3 := Obj.data_mapFields hd (·.setIfInBounds 1 (Value.ref g1.objs.size))
  have e3 := Heap.get?_update_self (Obj.mapFields (·.setIfInBounds 1 (Value.ref g1.objs.size))) (push_get (o := ne) e1) (Obj.isFreed_of_fields d3)
  have T3 : ((g1.push ne).update e (Obj.mapFields (·.setIfInBounds 1 (Value.ref g1.objs.size)))).get? g1.objs.size = some ne :=
    (Heap.get?_update_other _ _ (Ne.symm hT)).trans (Heap.get?_push_size g1 (by rw [hne]; rfl))
  have dn : ne.data = .fields ([head, .ref L, .none, rawInt L, .none] ++ (if pl.isEmpty then List.replicate 6 Value.none else pl)).toArray := by rw [hne]
  unfold setFlight
  refine wpAny_bind (wpAny_field e3 d3 (x := .ref g1.objs.size) (by simp [hsz]) ?_)
  rw [if_pos (show (Value.ref g1.objs.size != Value.none) = true from by simp)]
  refine wpAny_setField T3 dn (by simp only [List.size_toArray, List.length_append, List.length_cons, List.length_nil] <;> omega) (h _ g1.objs.size ?_ (by rw [k1.1]; exact Nat.le_refl _) ?_)
  · refine ⟨_, _, _, _, (Heap.get?_update_other _ _ hT).trans e3, Obj.cls_mapFields _ _, mapF_dict _ _, d3, by simp [hsz], hT, Heap.get?_update_self _ T3 (Obj.isFreed_of_fields (Obj.data_mapFields dn _)), Obj.data_mapFields dn _, ?_⟩
    first | (simp; done) | (rcases hpl with rfl | ⟨_, _, _, _, _, _, _, rfl⟩ <;> simp)
  · have keep : ∀ b o, b ≠ e → g1.get? b = some o → (((g1.push ne).update e (Obj.mapFields (·.setIfInBounds 1 (Value.ref g1.objs.size)))).update g1.objs.size (Obj.mapFields (·.setIfInBounds 3 ((none : Option Addr).elim Value.none fun f => rawInt f)))).get? b = some o := fun b o hbe hb => by
      rw [Heap.get?_update_other _ _ (Nat.ne_of_gt (Heap.lt_size hb)), Heap.get?_update_other _ _ (Ne.symm hbe)]; exact push_get hb
    refine ⟨fun b o q hb hx => keep b o (by simpa using hx) ((k1.2.1 b hb).trans q), fun b o q hx => ?_, ?_⟩
    · obtain ⟨sl, z⟩ := k1.2.2 b o q
      exact ⟨sl, keep b _ (by simpa using hx) z⟩
    · rw [Heap.size_after_update, Heap.size_after_update, Heap.size_push, k1.1]; exact Nat.le_succ _
/-- the first frame that it leaves -/
theorem leave1 {base : Heap} {env : Env} {outer : List Env} {L e : Addr} {oe : Obj} {vs : Array Value} {Q : Unit → Shared → Prop}
    (hfr : A.frames = some (env :: outer)) (hl : s.heap.FunFrames base (env :: outer)) (hf : env.frame = some L) (he : s.heap.get? e = some oe) (hd : oe.data = .fields vs) (h1 : vs[1]? = some .none)
    (h : ∀ (h' : Heap) (T : Addr), FlD h' e oe.cls oe.dict T → s.heap.objs.size ≤ T → Kp (frs (env :: outer)) [e] s.heap h' → Q () { s with heap := h' }) : wpAny Md A (leaving env (.ref e)) Q E s := by
  unfold leaving noteFrame
  simp only [hf]
  refine wpAny_bind (wpAny_bind (wpAny_field he hd h1 ?_)); rw [if_neg (by decide)]
  exact entryD hfr hl hf he hd (Array.getElem?_eq_some_iff.mp h1).1 h
/-- each further one -/
theorem leave2 {base : Heap} {env : Env} {outer : List Env} {L e T0 : Addr} {cls : Value} {dd : Option Addr} {Q : Unit → Shared → Prop}
    (hfr : A.frames = some (env :: outer)) (hl : s.heap.FunFrames base (env :: outer)) (hf : env.frame = some L) (ht : FlD s.heap e cls dd T0)
    (h : ∀ (h' : Heap) (T : Addr), FlD h' e cls dd T → s.heap.objs.size ≤ T → Kp (frs (env :: outer)) [e, T0] s.heap h' → Q () { s with heap := h' }) : wpAny Md A (leaving env (.ref e)) Q E s := by
  obtain ⟨oe, vs, oT, ts, he, rfl, rfl, hd, h1, hTe, hT, hdT, h3⟩ := ht
  unfold leaving noteFrame
  simp only [hf]
  refine wpAny_bind (wpAny_bind (wpAny_field he hd h1 ?_)); rw [if_pos (show (Value.ref T0 != Value.none) = true from by simp)]
  refine wpAny_bind (wpAny_field hT hdT h3 ?_); rw [if_neg (show ¬ ((Value.none == rawInt L) = true) from by simp [rawInt])]
  refine wpAny_bind (wpAny_setField hT hdT (Array.getElem?_eq_some_iff.mp h3).1 ?_)
  have other : ∀ b, b ≠ T0 → (s.heap.update T0 (Obj.mapFields (·.setIfInBounds 3 Value.none))).get? b = s.heap.get? b := fun b hb => Heap.get?_update_other _ _ (Ne.symm hb)
  refine entryD (s := { s with heap := s.heap.update T0 (Obj.mapFields (·.setIfInBounds 3 Value.none)) }) hfr (hl.of_keeps fun b o hb hnf => ⟨o, (other b fun q => by subst q; rw [hT] at hb; cases hb; exact hnf ts hdT).trans hb, rfl⟩) hf ((other e (Ne.symm hTe)).trans he) hd (Array.getElem?_eq_some_iff.mp h1).1 fun h' T fl sz kp => ?_
  have z : (s.heap.update T0 (Obj.mapFields (·.setIfInBounds 3 Value.none))).objs.size = s.heap.objs.size := Heap.size_after_update ..
  refine h h' T fl (by rw [← z]; exact sz) ⟨fun b o q hb hx => kp.keep b o ((other b fun r => hx (by simp [r])).trans q) hb fun r => hx (List.mem_cons.mpr (.inl (List.mem_singleton.mp r))), fun b o q hx => kp.slot b o ((other b fun r => hx (by simp [r])).trans q) fun r => hx (List.mem_cons.mpr (.inl (List.mem_singleton.mp r))), by rw [← z]; exact kp.size⟩
end
end L2.Lw

set_option Elab.async false
set_option linter.all false
set_option maxRecDepth 100000
namespace L2.Lw
open PySem PySem.Spec PyProof.Rows
/-- how an exception lies behind a call: new since the call, all else as behind a call that ends -/
def XC (P : Program) (w : World) : CXT := fun outer H s E e s' => ∃ (ea T : Addr) (cls : Value) (dd : Option Addr) (H' : Hp), e = .ref ea ∧ FlD s'.heap ea cls dd T ∧ s.heap.objs.size ≤ ea ∧ s.heap.objs.size ≤ T ∧ H' ea = none ∧ H' T = none ∧
  s'.os = s.os ∧ AllBare s'.gens ∧ Un (frs outer) [] H H' s.heap s'.heap ∧ HOk P w H' s'.heap ∧ E cls dd H'
section
variable {X : Cx} {pins : List (Addr × Obj)} {σ : St} {H : Hp} {s : Shared}
/-- behind the frame's end -/
theorem Inv.left (I : Inv X pins σ H s) {ex : List Addr} {h' : Heap} (hst : X.stack = X.env :: X.outer) (hex : X.ex = []) (kp : Kp (frs X.stack) ex s.heap h') (hn : ∀ b ∈ ex, X.s_0.heap.objs.size ≤ b ∧ H b = none) :
    Un (frs X.outer) [] X.H_0 H X.s_0.heap h' ∧ HOk X.prog X.w H h' := by
  have hfr : X.env.frame = some X.env.locals := by
    rcases I.ok.stk with z | z
    · have := congrArg List.length (hst.symm.trans z); simp at this
    · exact z.2
  have e1 : frs X.stack = X.env.locals :: frs X.outer := by rw [hst]; unfold frs; rw [List.filterMap_cons, hfr]
  have new : ∀ b o, X.s_0.heap.get? b = some o → b ∉ ex ∧ b ≠ X.env.locals := fun b o q => by
    have lt := Heap.lt_size q
    exact ⟨fun z => absurd (hn b z).1 (Nat.not_le_of_lt lt), fun z => by subst z; exact absurd I.ok.above (Nat.not_le_of_lt lt)⟩
  have bs := I.base
  rw [hex] at bs
  refine ⟨⟨fun b o q n hf hx => ?_, fun b o q n hf hx => ?_, bs.free, fun b o q hx => ?_, bs.tups, bs.frzs, bs.tbls⟩, fun a o q => (I.hok a o q).stay (fun b u hb r => ?_) (fun _ r => r) fun _ _ r => r⟩
  · refine kp.keep b o (bs.keep b o q n hf hx) ?_ (new b o q).1
    rw [e1]; intro z
    rcases List.mem_cons.mp z with z | z
    · exact (new b o q).2 z
    · exact hf z
  · obtain ⟨sl, r⟩ := bs.any q n hx
    obtain ⟨sl', r'⟩ := kp.slot b _ r (new b o q).1
    exact ⟨sl', r'⟩
  · obtain ⟨o', r⟩ := bs.there b o q hx
    obtain ⟨sl', r'⟩ := kp.slot b _ r (new b o q).1
    exact ⟨_, r'⟩
  · have hb' : H b ≠ none := by
      rcases hb with z | z
      · subst z; rw [q]; simp
      · rw [z]; simp
    refine kp.keep b u r (fun z => hb' (I.stkFree b z)) fun z => hb' (hn b z).2
end
section
variable {P : Program} {w : World} {K : PySem.W.Frag} {mg : Str → Option Value} {base : Heap} {N : List Str} {qual : Str} {scope : Scope} {f : Addr} {cd : Value} {A : Around} {outer : List Env} {s0 : Shared} {H0 : Hp} {E : XK}
/-- an exception of a callee leaves this def, too -/
theorem xpass : Passes (XC P w) (cxOf (XC P w) P w K mg base N qual scope f cd A outer s0 H0 E) E := by
  intro pins σ H s e s' I h
  obtain ⟨ea, T, cls, dd, H', rfl, fl, n1, n2, f1, f2, os, bare, un, hok, q⟩ := h
  obtain ⟨hh, g, d, t, os'⟩ := s'
  obtain rfl : os' = s.os := os
  have I' := I.call (h' := hh) (g' := g) (d' := d) (t' := t) (ch := []) un hok bare (fun b z => absurd z (by simp))
  have sz := I.sz
  show wpAny (model P w) (A.deeper (envOfC qual scope s0.heap.objs.size f cd)) (leaving (envOfC qual scope s0.heap.objs.size f cd) (.ref ea)) _ _ _
  refine leave2 (outer := outer) (L := s0.heap.objs.size) I'.ok.frames I'.stack rfl fl fun h' T' fl' sz' kp => ?_
  have k := Inv.left I' rfl rfl kp (fun b hb => by
    rcases List.mem_cons.mp hb with z | z
    · subst z; exact ⟨Nat.le_trans sz n1, f1⟩
    · rw [List.mem_singleton.mp z]; exact ⟨Nat.le_trans sz n2, f2⟩)
  have sz2 : s0.heap.objs.size ≤ hh.objs.size := I'.sz
  exact ⟨ea, T', cls, dd, H', rfl, fl', Nat.le_trans sz n1, Nat.le_trans sz2 sz', f1, hok.fresh sz', I'.os, bare, k.1, k.2, q⟩
/-- an exception that this def itself made leaves it -/
theorem xfirst {pins : List (Addr × Obj)} {σ : St} {H : Hp} {s : Shared} {ea : Addr} {oe : Obj} {vs : Array Value} (I : Inv (cxOf (XC P w) P w K mg base N qual scope f cd A outer s0 H0 E) pins σ H s) (he : s.heap.get? ea = some oe) (hd : oe.data = .fields vs) (h1 : vs[1]? = some .none)
    (hn : s0.heap.objs.size ≤ ea) (hf : H ea = none) (q : E oe.cls oe.dict H) : (cxOf (XC P w) P w K mg base N qual scope f cd A outer s0 H0 E).xe (.ref ea) s := by
  show wpAny (model P w) (A.deeper (envOfC qual scope s0.heap.objs.size f cd)) (leaving (envOfC qual scope s0.heap.objs.size f cd) (.ref ea)) _ _ _
  refine leave1 (outer := outer) (L := s0.heap.objs.size) I.ok.frames I.stack rfl he hd h1 fun h' T' fl' sz' kp => ?_
  have k := Inv.left I rfl rfl kp (fun b hb => by rw [List.mem_singleton.mp hb]; exact ⟨hn, hf⟩)
  exact ⟨ea, T', _, _, H, rfl, fl', hn, Nat.le_trans I.sz sz', hf, I.hok.fresh sz', I.os, I.bare, k.1, k.2, q⟩
end
end L2.Lw

set_option Elab.async false
set_option linter.all false
set_option maxRecDepth 100000
namespace L2.Lw
open PySem PySem.Spec PyProof.Rows
section
variable {prog : Program} {w : World} {A : Around} {E : Value → Shared → Prop} {h : Heap} {g : Array GenState} {d : Drawn} {t : Nat} {os : OsState}
variable {nm q : Str} {C N : Addr} {bs bm bmB : List Value} {hdct : Bool} {sn : List Str} {sub : List Value} {ab : Bool} {col : Option Bool} {dd : Option Addr} {k0 k1 k2 k3 k5 : Option Value} {B Bn newId nid initId inN : String} {bmN : List Value}
/-- below the own classes: the same built-in ones -/
def TailT (bmB bm : List Value) : Prop := ∀ X : String, bm.contains (.type X) = bmB.contains (.type X)
theorem TailT.hasT (T : TailT bmB bm) {X : String} {b : Bool} (hb : bmB.contains (.type X) = b) : bm.contains (.type X) = b := (T X).trans hb
theorem chk_new {Md : Model} (Fn : ExcBaseFacts Bn newId inN bmN) (hBn : bmB.contains (.type Bn) = true) (T : TailT bmB bm) {xs : List Value} {R : Unit → Shared → Prop} (c : h.get? C = some (excClassObj nm q C N bs bm hdct sn sub ab col dd k0 k1 k2 k3 k5 newId)) (r : R () ⟨h, g, d, t, os⟩) : wpAny Md A (checkBuiltinCall newId ⟨.ref C :: xs, []⟩) R E ⟨h, g, d, t, os⟩ := by
  have z1 : (Value.ref C :: bm).contains (.type Bn) = true := by rw [List.contains_cons, T.hasT hBn, Bool.or_true]
  have z2 := Fn.noStar; simp only [checkBuiltinCall, Fn.newKind, Fn.newSplit, Fn.newRow]
  (repeat (first | refine wpAny_loadPart_at c ?_ | (refine wpAny_isSubtype_exc c ?_; rw [z1]) | refine wpAny_staticBase_exc c ?_ | refine wpAny_madeBy_exc c ?_ | simp only [bne_self_eq_false, Bool.false_eq_true, if_false] | wp_step)); exact r
theorem run_new {R : Result → Shared → Prop} (Fn : ExcBaseFacts Bn newId inN bmN) (hBn : bmB.contains (.type Bn) = true) (F : ExcBaseFacts B nid initId bmB) (T : TailT bmB bm) {xs : List Value} (c : h.get? C = some (excClassObj nm q C N bs bm hdct sn sub ab col dd k0 k1 k2 k3 k5 newId))
    (r : R (.ok (.ret (.ref (h.objs.size + 1)))) ⟨(h.push { cls := .type "tuple", data := .seq xs.toArray }).push { cls := .ref C, data := .fields #[.ref h.objs.size, .none, .none, .none, .bool false, .none] }, g, d, t, os⟩) (hl : xs.length ≤ sizeLine) : codeAny (model prog w) A (.builtin newId ⟨.ref C :: xs, []⟩) R ⟨h, g, d, t, os⟩ := by
  have z0 := Fn.ends; have z1 : (Value.ref C :: bm).contains (.type Bn) = true := by rw [List.contains_cons, T.hasT hBn, Bool.or_true]
  have z2 : (Value.ref C :: bm).contains (.type "AttributeError") = false := by rw [List.contains_cons, T.hasT F.noAttr]; rfl
  have z3 : (Value.ref C :: bm).contains (.type "NameError") = false := by rw [List.contains_cons, T.hasT F.noName]; rfl
  refine codeAny_builtinAt Fn.entry ?_; unfold Builtin.«BaseException.__new__»; refine PySem.wpAt_bind ?_; show PySem.wpAt _ _ _ (stack >>= _) _ _ _
  refine PySem.wpAt_bind (PySem.wpAt_stack fun p below => PySem.wpAt_of_wpAny ?_); wp_walk; refine PySem.wpAt_of_wpAny ?_; rw [Fn.owner]
  (repeat (first | with_reducible refine wpAny_madeHere_exc Fn.canon c ?_ | with_reducible refine wpAny_loadPart_at c ?_ | (with_reducible refine wpAny_isSubtype_exc c ?_; first | rw [z1] | rw [z2] | rw [z3]) | wp_step)); show R _ _; rw [Heap.size_push]; exact r
theorem chk_init {Md : Model} (F : ExcBaseFacts B nid initId bmB) (T : TailT bmB bm) {e : Addr} {oe : Obj} {xs : List Value} {R : Unit → Shared → Prop} (c : h.get? C = some (excClassObj nm q C N bs bm hdct sn sub ab col dd k0 k1 k2 k3 k5 newId)) (i : h.get? e = some oe) (ic : oe.cls = .ref C) (r : R () ⟨h, g, d, t, os⟩) : wpAny Md A (checkBuiltinCall initId ⟨.ref e :: xs, []⟩) R E ⟨h, g, d, t, os⟩ := by
  have z1 : (Value.ref C :: bm).contains (.type B) = true := by rw [List.contains_cons, T.hasT F.hasB, Bool.or_true]
  have z2 := F.noStar; simp only [checkBuiltinCall, F.initKind, F.initSplit, F.initRow]
  (repeat (first | (with_reducible refine wpAny_loadPart_at i ?_; rw [ic]) | with_reducible refine wpAny_loadPart_at c ?_ | (with_reducible refine wpAny_isSubtype_exc c ?_; rw [z1]) | wp_step)); refine wpAny_onRaise ?_
  rw [show ∀ (x y : String) (m : Nat), Bind.check ⟨.positional, "*", B, .self, [⟨"args", .varPos, false⟩]⟩ x y m (List.map (fun p => p.fst) ({ pos := Value.ref e :: xs } : Args).kw) = pure () from fun x y m => check_star_args _ _ _ _ _ _]; exact wpAny_pure r
theorem own_init {Md : Model} {mN : Str → Option Value} {fI : Value} {R : Option Value → Shared → Prop} (c : h.get? C = some (excClassObj nm q C N bs bm hdct sn sub ab col dd k0 k1 k2 k3 k5 newId)) (n : h.Ns N mN) (hi : mN "__init__" = some fI) (r : R (some fI) ⟨h, g, d, t, os⟩) : wpAny Md A (typeLookup (.ref C) "__init__") R E ⟨h, g, d, t, os⟩ := by
  rw [typeLookup_eq]; refine wpAny_bind (wpAny_mroOf_exc c ?_); rw [lookupAlong_cons]; refine wpAny_bind (wpAny_classOwn_exc c n ?_); rw [hi]; exact wpAny_pure r
abbrev tupO' (rest : List Value) : Obj := { cls := .type "tuple", data := .seq rest.toArray }
abbrev excO (C t : Addr) : Obj := { cls := .ref C, data := .fields #[.ref t, .none, .none, .none, .bool false, .none] }
theorem tcall_own (Fn : ExcBaseFacts Bn newId inN bmN) (hBn : bmB.contains (.type Bn) = true) (F : ExcBaseFacts B nid initId bmB) (T : TailT bmB bm) {mN : Str → Option Value} {rest : List Value} {fI : Addr} {oI : Obj} {Q : Fin → Shared → Prop}
    (c : h.get? C = some (excClassObj nm q C N bs bm hdct sn sub ab col dd k0 k1 k2 k3 k5 newId)) (n : h.Ns N mN) (hi : mN "__init__" = some (.ref fI)) (i : h.get? fI = some oI) (ic : oI.cls = .type "function")
    (hq : ∀ h' e, h.objs.size ≤ e → Heap.MadeExcOf h h' e (.ref C) rest → wpAny (model prog w) A (call (.ref fI) (.ref e :: rest)) (fun r s' => r = .none ∧ Q (.done (.ret (.ref e))) s') E ⟨h', g, d, t, os⟩) (hrest : rest.length ≤ sizeLine := by size_fits) :
    wpAny (model prog w) A (Builtin.«type.__call__» ⟨.ref C :: rest, []⟩) Q E ⟨h, g, d, t, os⟩ := by
  repeat (first | with_reducible refine wpAny_loadPart_at c ?_ | with_reducible refine wpAny_madeBy_exc c ?_ | wp_step)
  refine codeAny_call_builtin_code (Code.quiet_builtin _ Fn.quiet) (chk_new Fn hBn T c ?_); refine run_new Fn hBn F T c ?_ hrest
  show wpAny _ _ _ _ _ _
  have kk : ∀ b o, h.get? b = some o → ((h.push (tupO' rest)).push (excO C h.objs.size)).get? b = some o := fun b o e => push_get (push_get e)
  have c1 := kk _ _ c
  have i1 := kk _ _ i
  have n1 : ((h.push (tupO' rest)).push (excO C h.objs.size)).Ns N mN := let ⟨o, es, ep, e, r⟩ := n; ⟨o, es, ep, kk _ _ e, r⟩
  have g1 : ((h.push (tupO' rest)).push (excO C h.objs.size)).get? (h.objs.size + 1) = some (excO C h.objs.size) := by heap_get
  have own : (Value.ref C :: bm).contains (.ref C) = true := by simp
  unfold isInstance
  repeat (first | with_reducible refine wpAny_loadPart_at g1 ?_ | (with_reducible refine wpAny_isSubtype_exc c1 ?_; rw [own]) | wp_step)
  show wpAny _ _ (typeLookup (.ref C) _) _ _ _
  refine own_init c1 n1 hi ?_
  refine wpAny_holding (wpAny_bind ?_); unfold bindSpecial
  refine wpAny_bind (wpAny_typeOf (T := "function") ⟨_, i1, ic⟩ ?_); rw [if_pos (by decide)]
  refine wpAny_pure (wpAny_bind (wpAny_mono (hq _ (h.objs.size + 1) (Nat.le_succ _) ⟨kk, Heap.get?_none_of_le (Nat.le_succ _), h.objs.size, g1, Heap.get?_none_of_le (Nat.le_refl _), push_get (Heap.get?_push_at rfl rfl)⟩) (fun r s' hr => ?_) fun _ _ x => x))
  obtain ⟨rfl, hQ⟩ := hr
  wp_walk
  exact hQ
theorem call_own (Fn : ExcBaseFacts Bn newId inN bmN) (hBn : bmB.contains (.type Bn) = true) (F : ExcBaseFacts B nid initId bmB) (T : TailT bmB bm) {mN : Str → Option Value} {rest : List Value} {fI : Addr} {oI : Obj} {Q : Value → Shared → Prop}
    (c : h.get? C = some (excClassObj nm q C N bs bm hdct sn sub ab col dd k0 k1 k2 k3 k5 newId)) (n : h.Ns N mN) (hi : mN "__init__" = some (.ref fI)) (i : h.get? fI = some oI) (ic : oI.cls = .type "function")
    (hq : ∀ h' e, h.objs.size ≤ e → Heap.MadeExcOf h h' e (.ref C) rest → wpAny (model prog w) (A.under (.builtin "type.__call__" ⟨.ref C :: rest, []⟩)) (call (.ref fI) (.ref e :: rest)) (fun r s' => r = .none ∧ Q (.ref e) s') E ⟨h', g, d, t, os⟩) (hrest : rest.length ≤ sizeLine := by size_fits) :
    wpAny (model prog w) A (call (.ref C) rest) Q E ⟨h, g, d, t, os⟩ := by
  have f1 := tc_lookup
  have f2 := tc_bind (.ref C)
  have hT : (⟨h, g, d, t, os⟩ : Shared).TypeIs (.ref C) "type" := ⟨_, c, rfl⟩
  refine wpAny_call (codeAny_of_tree ?_); show wpAny _ _ (callAny (.ref C) _) _ _ _
  repeat (any_goals (first | assumption | with_reducible refine wpAny_loadPart_at c ?_ | wp_step))
  exact ⟨rfl, codeAny_call_builtin_at (Code.quiet_builtin _ (by decide +kernel)) entry_typeCall (wpAny_check_type_call_sub c (tcall_own (hrest := hrest) Fn hBn F T c n hi i ic hq))⟩
end
section
variable {Md : Model} {A : Around} {E : Value → Shared → Prop} {env : Env}
variable {nm q : Str} {C N : Addr} {bs bm : List Value} {hdct : Bool} {sn : List Str} {sub : List Value} {ab : Bool} {col : Option Bool} {dd : Option Addr} {k0 k1 k2 k3 k5 : Option Value} {newId : String}
/-- raise of an instance, with a dict or without -/
theorem raise_own {s : Shared} {x : Sem Value} {Q : Flow → Shared → Prop} (hbase : bm.contains (.type "BaseException") = true) (hh : A.handled = none)
    (h : wpAny Md A x (fun v s₁ => ∃ e oe, v = .ref e ∧ s₁.heap.get? C = some (excClassObj nm q C N bs bm hdct sn sub ab col dd k0 k1 k2 k3 k5 newId) ∧ s₁.heap.get? e = some oe ∧ oe.cls = .ref C ∧ (∃ a c' d' e' f', oe.data = .fields #[a, .none, c', d', e', f']) ∧ E (.ref e) s₁) E s) :
    wpAny Md A (raiseStmt env (some x) none) Q E s := by
  have hcB : (Value.ref C :: bm).contains (.type "BaseException") = true := by rw [List.contains_cons, hbase, Bool.or_true]
  unfold raiseStmt
  refine wpAny_bind (wpAny_mono h (fun v s₁ h₁ => ?_) fun _ _ x => x)
  obtain ⟨e, ⟨c0, d0, dt, sl⟩, rfl, hC, he, hcls, ⟨_, _, _, _, _, hd⟩, hE⟩ := h₁; obtain rfl : c0 = _ := hcls; obtain rfl : dt = _ := hd
  obtain ⟨hp, g, d, tk, os⟩ := s₁
  (repeat (first | with_reducible refine wpAny_loadPart_at he ?_ | with_reducible refine wpAny_loadPart_at hC ?_ | (with_reducible refine wpAny_isSubtype_exc hC ?_; rw [hcB]) | wp_step)); exact wpAny_raiseNew_none hh hE
end
end L2.Lw

set_option Elab.async false
set_option linter.all false
set_option maxRecDepth 100000
namespace L2.Lw
open PySem PySem.Spec PyProof.Rows
/-! ### C.m(e, ..), C an own class by its name, m a plain def of it -/
structure CMeth (K : PySem.W.Frag) (C : Addr) (m : Str) (f : Addr) : Prop where
  reads : PySem.W.readsIn K C (.type "type") = true
  find : PySem.W.findCls K (.ref C) (.type "type") m = some (.val (.ref f))
  sp : PySem.W.specialIn K (.ref C) "__getattribute__" = some (some (.builtin "type.__getattribute__"))
  kp : PySem.W.keepIn K (.ref f) = true
section
variable {X : Cx} {CX : CXT} {k : Nat} {f C : Addr} {fd : FuncData} {ps : List Str} {sp : Sp} {dvs : List V} {ds : List Value} {E : XK} {x m : Str} {p pos apos : Pos} {e : Expr} {es : List Expr} {t : TA}
theorem pe_ccall {pl : Sem Bool} (hg : Gl X x) (hm : X.mg x = some (.ref C)) (cm : CMeth X.K C m f) (F : FnOk X.prog X.w X.K X.mg X.base CX k f fd ps sp) (hr : Room k X.A) (hb : Binds X.K fd ps ds) (hd : Vals dvs ds) (hx : Passes CX X E) (ha : PA X (e :: es) t)
    (hdb : (x == ("__debug__" : Str)) = false := by decide) (hst : starEach (e :: es) X.env = (false, eval e X.env) :: starEach es X.env := by rfl) (hpl : (backTo pos (starEach es X.env)).any (·.1) = false := by rfl)
    (ht : eval (.Call (.Attribute (.Name x p) m apos) (e :: es) [] pos) X.env = (do
      let ov ← eval (.Name x p) X.env
      standAt apos.atName
      let (f, first) ← holding [ov] (getMethod ov m pl)
      callWith pos f first (backTo pos (starEach (e :: es) X.env)) (backToKw pos (keywordEach [] X.env))) := by rfl) :
    PE X (.Call (.Attribute (.Name x p) m apos) (e :: es) [] pos) (tCall sp dvs E t) := by
  intro pins s σ H Q I h
  refine PySem.W.methodCall_KW (pl := pl) (ld_glob I hg hm ?_ hdb) ht
  refine PySem.W.method_cls I.kIn cm.sp (PySem.W.cls_value I.kIn cm.reads cm.find rfl ?_)
  have I0 : Inv X pins σ H { s with toks := s.toks + 1 } := I.tok _
  refine PySem.W.callWith_K (first := []) (h₀ := X.base) I.ok.mod.kin cm.kp (thn (ha pos pins _ σ H _ I0 h) fun us s2 ⟨vs, H2, I2, r, q2⟩ => ⟨I2.kIn, ?_⟩) hst hpl
  exact run_fn F hr hb hd hx I2 r q2
end
end L2.Lw

set_option Elab.async false
set_option linter.all false
set_option maxRecDepth 100000
namespace L2.Lw
open PySem PySem.Spec PyProof.Rows
section
variable {prog : Program} {w : World} {A : Around} {E : Value → Shared → Prop} {h : Heap} {g : Array GenState} {d : Drawn} {t : Nat} {os : OsState}
variable {nm q : Str} {C N : Addr} {bs bm bmB : List Value} {hdct : Bool} {sn : List Str} {sub : List Value} {ab : Bool} {col : Option Bool} {dd : Option Addr} {k0 k1 k2 k3 k5 : Option Value} {B newId nid initId : String}
/-- the built-in __init__ below an own one: new arguments, nothing else -/
theorem vinit (F : ExcBaseFacts B nid initId bmB) (T : TailT bmB bm) {e : Addr} {t0 : Addr} {x1 x2 x3 x4 x5 : Value} {ed : Option Addr} {sl : Array (Option Value)} {rest : List Value} {Q : Value → Shared → Prop} (hC : h.get? C = some (excClassObj nm q C N bs bm hdct sn sub ab col dd k0 k1 k2 k3 k5 newId))
    (he : h.get? e = some ⟨.ref C, ed, .fields #[.ref t0, x1, x2, x3, x4, x5], sl⟩) (hrest : rest.length ≤ sizeLine)
    (hq : ∀ (h' : Heap) (tt : Addr), (∀ b o, b ≠ e → h.get? b = some o → h'.get? b = some o) → h'.get? e = some ⟨.ref C, ed, .fields #[.ref tt, x1, x2, x3, x4, x5], sl⟩ → Q .none ⟨h', g, d, t, os⟩) :
    wpAny (model prog w) A (call (.builtin initId) (.ref e :: rest)) Q E ⟨h, g, d, t, os⟩ := by
  refine wpAny_call (codeAny_call_builtin F.init.plain F.initEntry (chk_init F T hC he rfl ?_))
  wp_walk
  refine hq _ h.objs.size (fun b o hb z => (Heap.get?_update_other _ _ (Ne.symm hb)).trans (push_get z)) ((Heap.get?_update_self _ (push_get he) rfl).trans ?_)
  rfl
/-- the method of a built-in class, by the class's name -/
theorem getm_ty {K : PySem.W.Frag} {s : Shared} {T id : String} {m : Str} {pl : Sem Bool} {Q : Value × List Value → Shared → Prop} (X : K.In s.heap) (hst : Manifest.isStub T = false) (hty : typeOf (.type T) = pure (.type "type"))
    (e : PySem.W.findCls K (.type T) (.type "type") m = some (.val (.builtin id))) (hh : PySem.W.handedIn (.builtin id) = true) (k : Q (.builtin id, []) { s with toks := s.toks + 1 }) : wpAny (model prog w) A (getMethod (.type T) m pl) Q E s := by
  have hstub : opaqueClassAbove (.type T) = pure none := by unfold opaqueClassAbove; dsimp only; rw [hst]; rfl
  have L0 : PySem.W.Looks (model prog w) s.heap (typeOf (.type T)) (.type "type") := PySem.W.Looks.of_pure hty
  have hg : PySem.W.findIn K (.type "type") "__getattribute__" = some (some (.builtin "type.__getattribute__")) := PySem.W.type_tga
  unfold getMethod specialOf
  refine wpAny_bind (wpAny_bind (L0.here ((PySem.W.looks_findIn X hg).here ?_))); dsimp only; rw [if_pos PySem.W.canon_tga]
  refine wpAny_bind (wpAny_mono (Q := fun v => Q (v, [])) (E := E) ?_ (fun _ _ z => wpAny_pure z) fun _ _ z => z)
  have LO : PySem.W.Looks (model prog w) s.heap (opaqueClassAbove (.type T)) none := PySem.W.Looks.of_pure hstub
  refine PySem.W.cls_open X LO L0 hg (PySem.W.looks_hook X (r := none) (by rfl)) (by show PySem.W.subIn K _ _ = _; rfl) e ?_
  exact wpAny_pure (PySem.W.handed_on hh k)
theorem find_vinit (K : PySem.W.Frag) : PySem.W.findCls K (.type "ValueError") (.type "type") "__init__" = some (.val (.builtin "ValueError.__init__")) := by kernel_rfl
end
end L2.Lw

set_option Elab.async false
set_option linter.all false
set_option maxRecDepth 100000
namespace L2.Lw
open PySem PySem.Spec PyProof.Rows
theorem slot_bga : PySem.Slot "BaseException" "__getattribute__" "BaseException.__getattribute__" :=
  .of (owner := "BaseException") (n := "__getattribute__") (by rw [typeLookup_type, builtinLookup_eq_fast]; kernel_rfl) (by decide +kernel) (by decide +kernel) (by decide +kernel) (by first | exact .inl (by decide +kernel) | exact .inr (by decide +kernel)) (by rw [isSubtype_type]; kernel_rfl)
section
variable {prog : Program} {w : World} {A : Around} {E : Value → Shared → Prop} {s : Shared} {K : PySem.W.Frag} {x C : Addr} {ox : Obj} {od : Option Obj} {name : Str} {expr : Bool} {Q : Value → Shared → Prop}
/-- an own attribute of an exception -/
theorem xget {v : Value} (X : K.In s.heap) (I : PySem.W.InstAt s.heap x ox C od) (hga : PySem.W.findIn K (.ref C) "__getattribute__" = some (some (.builtin "BaseException.__getattribute__"))) (hk : PySem.W.findIn K (.ref C) "__getattr__" = some none)
    (hs : PySem.W.subIn K (.ref C) (.type "BaseException") = some true) (hf : PySem.W.findObj K C od name = some (.value v)) (hh : PySem.W.handedIn v = true) (h : Q v { s with toks := s.toks + 1 }) : wpAny (model prog w) A (getAttr (.ref x) name expr) Q E s := by
  have ht := I.type (M := model prog w)
  refine wpAny_bind (wpAny_mkText (wpAny_holding (wpAny_bind (ht _ _ _ _ (fun _ _ e => e) (wpAny_bind (PySem.W.looks_findIn X hga _ _ _ _ (fun _ _ e => e) ?_))))))
  dsimp only
  rw [show (onTheHeap (Value.ref C) && Value.builtin "BaseException.__getattribute__" == Value.builtin "object.__getattribute__") = false from by rw [show (Value.builtin "BaseException.__getattribute__" == Value.builtin "object.__getattribute__") = false from by decide +kernel, Bool.and_false], if_neg (by decide)]
  have hb := PySem.W.looks_hook (M := model prog w) (mc := .ref C) X (r := none) hk
  refine wpAny_bind (hb _ _ _ _ (fun _ _ e => e) (wpAny_bind (wpAny_attempt (wpAny_holding ?_)))); unfold callGetattribute
  rw [show (expr && onTheHeap (Value.builtin "BaseException.__getattribute__")) = false from Bool.and_false _, if_neg (by decide)]; unfold boundAndCalled
  rw [slot_bga.bind]
  refine wpAny_bind (wpAny_pure ?_); show wpAny _ _ (call (.builtin "BaseException.__getattribute__") [.ref x, .str name s.toks]) _ _ _
  refine wpAny_call ?_; refine codeAny_call_builtin slot_bga.plain PySem.F.entry_bexc_ga ?_
  refine @PySem.W.check_slot (model prog w) _ _ { s with toks := s.toks + 1 } "BaseException.__getattribute__" "BaseException" "__getattribute__" (.ref x) [.str name s.toks] [] _ (by decide +kernel) (by decide +kernel) (ht.andThen (PySem.W.looks_subIn X hs)) (PySem.F.args_bexc_ga (.ref x) (.str name s.toks)) ?_
  obtain ⟨hp, g, d, t, os⟩ := s
  have L1 := PySem.W.looks_find (M := model prog w) X I hf
  unfold Builtin.«object.__getattribute__»
  refine wpAny_bind (wpAny_of_eq (a := (Value.ref x, [Value.str name t])) rfl ?_)
  refine wpAny_bind (wpAny_of_eq (a := name) rfl ?_)
  refine wpAny_bind (ht.at (wpAny_bind (L1.at ?_)))
  refine wpAny_pure ?_
  exact PySem.W.handed_on hh h
end
end L2.Lw

set_option Elab.async false
set_option linter.all false
set_option maxRecDepth 100000
namespace L2.Lw
open PySem PySem.Spec PyProof.Rows PySem.W Builtin Builtin.ObjectAttr
/-- the built-in classes behind the own ones -/
def offOwn : List Value → List Value
  | .ref _ :: r => offOwn r
  | l => l
theorem refuse_off (self : Value) {bm : List Value} (p : refuseLoop self "__setattr__" bm = pure ()) : ∀ l : List Value, offOwn l = bm → refuseLoop self "__setattr__" l = pure ()
  | [], e => by rw [show ([] : List Value) = bm from e]; exact p
  | .ref C :: r, e => by rw [refuseLoop_ref]; exact refuse_off self p r e
  | .none :: r, e => by rw [show (Value.none :: r) = bm from e]; exact p
  | .bool b :: r, e => by rw [show (Value.bool b :: r) = bm from e]; exact p
  | .int i k :: r, e => by rw [show (Value.int i k :: r) = bm from e]; exact p
  | .float i k :: r, e => by rw [show (Value.float i k :: r) = bm from e]; exact p
  | .str i k :: r, e => by rw [show (Value.str i k :: r) = bm from e]; exact p
  | .type n :: r, e => by rw [show (Value.type n :: r) = bm from e]; exact p
  | .builtin n :: r, e => by rw [show (Value.builtin n :: r) = bm from e]; exact p
  | v :: r, e => by
    cases v <;> first | (rw [refuseLoop_ref]; exact refuse_off self p r e) | (rw [show (_ :: r) = bm from e]; exact p)
section
variable {prog : Program} {w : World} {A : Around} {E : Value → Shared → Prop} {R : Result → Shared → Prop} {s : Shared} {K : Frag} {x C : Addr} {ox : Obj} {name : Str} {v : Value} {cd : ClassData} {bm : List Value} {B : String}
/-- the first own attribute of an exception: its dict is made -/
theorem xset0 {Q : Unit → Shared → Prop} (SF : StoreFacts B bm "object.__setattr__" "object") (X : K.In s.heap) (I : InstAt s.heap x ox C none) (hc : clsIn K C = some cd) (hb : offOwn cd.mro = bm) (hme : cd.mro.isEmpty = false) (hob : cd.mro.contains (.type "object") = true) (hdct : cd.hasDict = true)
    (hs : findIn K (.ref C) "__setattr__" = some (some (.builtin "object.__setattr__"))) (ha : findIn K (.ref C) name = some none) (hdn : ox.dict = none) {vs : Array Value} (hdf : ox.data = .fields vs)
    (hq : ∀ (h' : Heap) (tk' : Nat) (da : Addr), s.heap.objs.size ≤ da → h'.get? x = some { ox with dict := some da } → h'.Ns1 da (fun y => if y = name then some v else none) → (∀ b o, b ≠ x → s.heap.get? b = some o → h'.get? b = some o) → Q () { s with heap := h', toks := tk' }) :
    wpAny (model prog w) A (setAttr (.ref x) name v) Q E s := by
  refine set_plain X I hs ?_
  have X1 : K.In ({ s with toks := s.toks + 1 } : Shared).heap := X
  have I1 : InstAt ({ s with toks := s.toks + 1 } : Shared).heap x ox C none := I
  have sub : Looks (model prog w) s.heap (isInstance (.ref x) (.type "object")) true := I.type.andThen (looks_mroIn X (by unfold mroIn; rw [hc, Option.bind_some, if_neg (by rw [hme]; decide), hob]))
  refine codeAny_call_builtin SF.slot.plain SF.entry (@check_slot (model prog w) _ _ { s with toks := s.toks + 1 } "object.__setattr__" "object" "__setattr__" (.ref x) [.str name s.toks, v] [] _ SF.kind SF.split sub (SF.args (.ref x) (.str name s.toks) v) ?_)
  have hm : Looks (model prog w) ({ s with toks := s.toks + 1 } : Shared).heap (mroOf (.ref C)) cd.mro := (looks_clsIn X1 hc).andThen .now
  rw [osa_eq, refuse_eq]
  refine wpAny_bind (wpAny_bind (I1.type.here (wpAny_bind (hm.here ?_)))); rw [refuse_off _ (SF.passes _) _ hb]
  refine wpAny_pure (wpAny_bind (I1.type.here (wpAny_bind ((looks_findIn X1 ha).here (wpAny_bind (wpAny_pure ?_))))))
  obtain ⟨hx, hcl, hno, -⟩ := I
  obtain ⟨oc, odi, oda, osl⟩ := ox
  dsimp only at hcl hdn hdf
  subst hcl hdn hdf
  show wpAny _ _ (storeInOwnDict (.ref x) (.ref C) (.str name s.toks) name v _) _ _ _
  unfold storeInOwnDict
  refine wpAny_bind (wpAny_pure (wpAny_bind (wpAny_bind (wpAny_loadPart hx (wpAny_bind ((looks_clsIn X1 hc).here ?_)))))); rw [hdct]
  show wpAny _ _ (do let d ← alloc { cls := Value.type "dict", data := Data.dict #[] }; update x fun o => { o with dict := some d }; dictMade (.ref C) x d) _ _ _
  have hxs : x ≠ s.heap.objs.size := Nat.ne_of_lt (Heap.lt_size hx)
  have hx1 : (s.heap.push { cls := .type "dict", data := .dict #[] }).get? x = some ⟨.ref C, none, .fields vs, osl⟩ := push_get hx
  refine wpAny_bind (wpAny_alloc' (wpAny_bind (wpAny_update' hx1 (wpAny_pure ?_))))
  have gd : ((s.heap.push { cls := .type "dict", data := .dict #[] }).update x fun o => { o with dict := some s.heap.objs.size }).get? s.heap.objs.size = some { cls := .type "dict", data := .dict #[] } :=
    (Heap.get?_update_other _ _ hxs).trans (Heap.get?_push_at rfl rfl)
  have gx : ((s.heap.push { cls := .type "dict", data := .dict #[] }).update x fun o => { o with dict := some s.heap.objs.size }).get? x = some ⟨.ref C, some s.heap.objs.size, .fields vs, osl⟩ := Heap.get?_update_self _ hx1 rfl
  have nd : ((s.heap.push { cls := .type "dict", data := .dict #[] }).update x fun o => { o with dict := some s.heap.objs.size }).Ns s.heap.objs.size (fun _ => none) := ⟨_, #[], _, gd, rfl, fun e he => absurd he (by simp), fun _ => rfl⟩
  show wpAny _ _ (storeInDict s.heap.objs.size (.str name s.toks) name v) _ _ _
  unfold storeInDict newKeyGuard
  refine wpAny_bind (wpAny_pure (wpAny_bind (wpAny_nsSet1 (Heap.Ns1.of_empty nd) fun h' hn' hs' => ?_)))
  obtain ⟨oD, esD, epD, hoD, hdD, hcD⟩ := hn'.count (Within.cons name v Within.nil)
  refine wpAny_bind (wpAny_lookBehind hoD (by rw [hdD]; exact pastItsLine_dict (Nat.le_trans hcD (by rw [List.length_cons, List.length_nil, sizeLine_eq]; omega))) ?_)
  wp_walk
  refine hq h' _ s.heap.objs.size (Nat.le_refl _) ((hs'.2 x hxs).trans gx) hn' fun b o hb z => ?_
  exact (hs'.2 b (Nat.ne_of_lt (Heap.lt_size z))).trans ((Heap.get?_update_other _ _ (Ne.symm hb)).trans (push_get z))
end
end L2.Lw

set_option Elab.async false
set_option linter.all false
set_option maxRecDepth 100000
namespace L2.Lw
open PySem PySem.Spec PyProof.Rows
/-- an exception of the own class at C that is being made: its dict dd -/
def ExO (e C : Addr) (dd : Option Addr) : HO := .ext fun h => ∃ t : Addr, h.get? e = some ⟨.ref C, dd, .fields #[.ref t, .none, .none, .none, .bool false, .none], #[]⟩
theorem ExO.ok {P : Program} {w : World} {H : Hp} {h : Heap} {e C t : Addr} {dd : Option Addr} (he : h.get? e = some ⟨.ref C, dd, .fields #[.ref t, .none, .none, .none, .bool false, .none], #[]⟩) : ObjOk P w H h e (ExO e C dd) :=
  ⟨⟨t, he⟩, ⟨_, he⟩, fun h1 h2 ⟨t', q⟩ k => ⟨t', k _ q⟩⟩
theorem ExO.get {P : Program} {w : World} {H : Hp} {h : Heap} {e C : Addr} {dd : Option Addr} (ok : HOk P w H h) (x : H e = some (ExO e C dd)) : ∃ t : Addr, h.get? e = some ⟨.ref C, dd, .fields #[.ref t, .none, .none, .none, .bool false, .none], #[]⟩ := (ok e _ x).1
theorem upd_id {H : Hp} {a : Addr} {o : HO} (h : H a = some o) : upd H a o = H := by
  funext b; unfold upd; split
  · rename_i e; rw [e, h]
  · rfl
/-- an own class below ValueError, as the module's heap shows it -/
structure XCls (K : PySem.W.Frag) (C : Addr) : Prop where
  obj : ∃ (nm q : Str) (N : Addr) (bs bm : List Value) (hdct : Bool) (sn : List Str) (sub : List Value) (ab : Bool) (col : Option Bool) (dd : Option Addr) (k0 k1 k2 k3 k5 : Option Value) (newId : String), K.lookup C = some (excClassObj nm q C N bs bm hdct sn sub ab col dd k0 k1 k2 k3 k5 newId) ∧ TailT [.type "ValueError", .type "Exception", .type "BaseException", .type "object"] bm
  subB : PySem.W.subIn K (.ref C) (.type "BaseException") = some true
  cd : ∃ cd : ClassData, PySem.W.clsIn K C = some cd ∧ offOwn cd.mro = [.type "ValueError", .type "Exception", .type "BaseException", .type "object"] ∧ cd.mro.isEmpty = false ∧ cd.mro.contains (.type "object") = true ∧ cd.hasDict = true
  sa : PySem.W.findIn K (.ref C) "__setattr__" = some (some (.builtin "object.__setattr__"))
  ga : PySem.W.findIn K (.ref C) "__getattribute__" = some (some (.builtin "BaseException.__getattribute__"))
  gk : PySem.W.findIn K (.ref C) "__getattr__" = some none
theorem handed_vinit : PySem.W.handedIn (.builtin "ValueError.__init__") = true := by kernel_rfl
section
variable {prog : Program} {w : World} {A : Around} {E : Value → Shared → Prop} {s : Shared} {K : PySem.W.Frag}
theorem vinitK {C e t0 : Addr} {ed : Option Addr} {m : Value} {Q : Value → Shared → Prop} (X : K.In s.heap) (c : XCls K C) (he : s.heap.get? e = some ⟨.ref C, ed, .fields #[.ref t0, .none, .none, .none, .bool false, .none], #[]⟩)
    (hq : ∀ (h' : Heap) (tt : Addr), (∀ b o, b ≠ e → s.heap.get? b = some o → h'.get? b = some o) → h'.get? e = some ⟨.ref C, ed, .fields #[.ref tt, .none, .none, .none, .bool false, .none], #[]⟩ → Q .none { s with heap := h' }) :
    wpAny (model prog w) A (call (.builtin "ValueError.__init__") [.ref e, m]) Q E s := by
  obtain ⟨nm, q, N, bs, bm, hdct, sn, sub, ab, col, dd, k0, k1, k2, k3, k5, newId, lk, tl⟩ := c.obj
  obtain ⟨h, g, d, t, os⟩ := s
  exact vinit PySem.F.excBase_ValueError tl (X _ _ lk) he (by show 1 ≤ sizeLine; decide) hq
end
/-- ValueError.__init__(self, message) -/
def tVin (K : PySem.W.Frag) (t : TA) : TE := fun σ H Q => t σ H fun vs H1 => ∃ (e C : Addr) (dd : Option Addr) (m : V), vs = [.ref e, m] ∧ H1 e = some (ExO e C dd) ∧ XCls K C ∧ Q .non H1
section
variable {X : Cx} {p pos apos : Pos} {a b : Expr} {t : TA}
theorem pe_vinit {pl : Sem Bool} (hg : Gl X "ValueError") (hm : X.mg "ValueError" = none) (ha : PA X [a, b] t)
    (hst : starEach [a, b] X.env = (false, eval a X.env) :: starEach [b] X.env := by rfl) (hpl : (backTo pos (starEach [b] X.env)).any (·.1) = false := by rfl)
    (ht : eval (.Call (.Attribute (.Name "ValueError" p) "__init__" apos) [a, b] [] pos) X.env = (do
      let ov ← eval (.Name "ValueError" p) X.env
      standAt apos.atName
      let (f, first) ← holding [ov] (getMethod ov "__init__" pl)
      callWith pos f first (backTo pos (starEach [a, b] X.env)) (backToKw pos (keywordEach [] X.env))) := by rfl) :
    PE X (.Call (.Attribute (.Name "ValueError" p) "__init__" apos) [a, b] [] pos) (tVin X.K t) := by
  intro pins s σ H Q I h
  refine PySem.W.methodCall_KW (pl := pl) (ld_blt I hg hm (by decide +kernel : bootBuiltins "ValueError" = some (.type "ValueError")) ?_) ht
  refine getm_ty (T := "ValueError") (id := "ValueError.__init__") (m := "__init__") I.kIn (by decide +kernel) (by first | rfl | kernel_rfl) (find_vinit X.K) handed_vinit ?_
  have I0 : Inv X pins σ H { s with toks := s.toks + 1 } := I.tok _
  refine PyProof.Rows.callWith_builtin1 (thn (ha pos pins _ σ H _ I0 h) fun us s1 ⟨vs, H1, I1, r1, q1⟩ => ?_) hst hpl
  obtain ⟨e, C, dd, m, ev, he, xc, q⟩ := q1
  subst ev
  cases r1 with
  | cons r rr =>
    cases rr with
    | cons r' rr =>
      cases rr
      cases r
      obtain ⟨t0, hge⟩ := ExO.get I1.hok he
      refine vinitK I1.kIn xc hge fun h' tt kk hge' => ⟨.non, H1, ?_, rfl, q⟩
      have := Inv.write (x := e) (e := e) (o := ExO e C dd) (h' := h') (t' := s1.toks) I1 (by rw [he]; trivial) (.inl rfl) kk ⟨_, hge'⟩ (ExO.ok hge')
      rwa [upd_id he] at this
end
end L2.Lw

set_option Elab.async false
set_option linter.all false
set_option maxRecDepth 100000
namespace L2.Lw
open PySem PySem.Spec PyProof.Rows
/-- self.name = value, the first own attribute of an exception that is being made -/
def sXset (K : PySem.W.Frag) (to tv : TE) (f : Str) : TS := fun D σ H => tv σ H fun y H1 => to σ H1 fun x H2 => ∃ (e C : Addr), x = .ref e ∧ H2 e = some (ExO e C none) ∧ XCls K C ∧ PySem.W.findIn K (.ref C) f = some none ∧
  ∀ da, H2 da = none → da ≠ e → D.nx σ (upd (upd H2 e (ExO e C (some da))) da (.xd [(f, y)]))
section
variable {X : Cx} {o value : Expr} {to tv : TE} {f : Str} {pos pos' : Pos}
theorem ps_xset (ho : PE X o to) (hv : PE X value tv) (hs : swapsWith value (some (.Attribute o f pos')) pos.line X.env = pure false := by rfl) : PS X (.Assign [.Attribute o f pos'] value pos) (sXset X.K to tv f) := by
  intro pins s σ H D I h
  refine plainObj_wpAny_Assign_Attribute (thn (hv pins s σ H _ I h) fun u s1 ⟨y, H1, I1, ry, q1⟩ => thn (ho pins s1 σ H1 _ I1 q1) fun w s2 ⟨x, H2, I2, rx, e, C, ex, he, xc, ff, q⟩ => ?_) hs
  subst ex
  obtain rfl : w = Value.ref e := rx
  obtain ⟨t0, hge⟩ := ExO.get I2.hok he
  obtain ⟨cd, c1, c2, c3, c4, c5⟩ := xc.cd
  refine xset0 PySem.F.store_ValueError I2.kIn ⟨hge, rfl, rfl, trivial⟩ c1 c2 c3 c4 c5 xc.sa ff rfl rfl fun h' tk' da hda hge' ns kk => ?_
  have hde : da ≠ e := fun z => by subst z; exact absurd (Heap.lt_size hge) (Nat.not_lt_of_le hda)
  have hdn : H2 da = none := I2.hok.fresh hda
  have ne : ∀ b o, s2.heap.get? b = some o → b ≠ da := fun b o z q => by subst q; exact absurd (Heap.lt_size z) (Nat.not_lt_of_le hda)
  have nd : ∀ b u', H2 b = some u' → b ≠ da := fun b u' z q => by subst q; rw [hdn] at z; cases z
  have nx : ∀ b u', H2 b = some u' → u' ≠ ExO e C none → b ≠ e := fun b u' z n q => by subst q; rw [he] at z; exact n (Option.some.inj z).symm
  have ku : ∀ b, b ≠ e → b ≠ da → upd (upd H2 e (ExO e C (some da))) da (.xd [(f, y)]) b = H2 b := fun b z1 z2 => by rw [upd_ne z2, upd_ne z1]
  refine ⟨σ, _, I2.un (t' := tk') (h' := h') ⟨fun b o z n _ _ => kk b o (fun q => by subst q; rw [he] at n; cases n) z, fun b o z n _ _ => ⟨o.slots, kk b o (fun q => by subst q; rw [he] at n; cases n) z⟩, fun b o z n _ => ?_, fun b o z _ => ?_, fun b xs z => ?_, fun b o u' z => ?_, fun b ps z => ?_⟩ (fun a o z => ?_), q da hdn hde⟩
  · rw [ku b (fun q => by subst q; rw [he] at n; cases n) (ne b o z)]; exact n
  · by_cases hb : b = e
    · subst hb; exact ⟨_, hge'⟩
    · exact ⟨o, kk b o hb z⟩
  · rw [ku b (nx b _ z (by intro q; cases q)) (nd b _ z)]; exact z
  · rw [ku b (nx b _ z (by intro q; cases q)) (nd b _ z)]; exact z
  · refine ⟨#[], ?_⟩; rw [ku b (nx b _ z (by intro q; cases q)) (nd b _ z), z]; simp
  · by_cases h1 : a = da
    · subst h1
      rw [upd_same] at z; cases z
      refine ⟨_, ns, fun g => ?_⟩
      by_cases hg : g = f
      · subst hg; simp only [List.lookup, beq_self_eq_true, if_true]; exact ry
      · rw [if_neg hg]
        have : (g == f) = false := by simpa using hg
        simp only [List.lookup, this]; trivial
    · rw [upd_ne h1] at z
      by_cases h2 : a = e
      · subst h2; rw [upd_same] at z; cases z; exact ExO.ok hge'
      · rw [upd_ne h2] at z
        refine (I2.hok a o z).stay (fun b u' hb r => kk b u' ?_ r) (fun b r => ?_) fun b xs r => ?_
        · rcases hb with hb | hb
          · rw [hb]; exact h2
          · exact nx b _ hb (by intro q; cases q)
        · rw [ku b (nx b _ r (by intro q; cases q)) (nd b _ r)]; exact r
        · rw [ku b (nx b _ r (by intro q; cases q)) (nd b _ r)]; exact r
end
end L2.Lw

set_option Elab.async false
set_option linter.all false
set_option maxRecDepth 100000
namespace L2.Lw
open PySem PySem.Spec PyProof.Rows
/-- no longer looked at -/
def del (H : Hp) (a : Addr) : Hp := fun b => if b = a then none else H b
theorem del_ne {H : Hp} {a b : Addr} (h : b ≠ a) : del H a b = H b := by unfold del; rw [if_neg h]
theorem del_self {H : Hp} {a : Addr} : del H a a = none := by unfold del; rw [if_pos rfl]
theorem del_none {H : Hp} {a b : Addr} (h : H b = none) : del H a b = none := by unfold del; split; rfl; exact h
section
variable {X : Cx} {pins : List (Addr × Obj)} {σ : St} {H : Hp} {s : Shared}
theorem Inv.drop {e C : Addr} {dd : Option Addr} (I : Inv X pins σ H s) (he : H e = some (ExO e C dd)) : Inv X pins σ (del H e) s := by
  have nx : ∀ b u', H b = some u' → u' ≠ ExO e C dd → b ≠ e := fun b u' z n q => by subst q; rw [he] at z; exact n (Option.some.inj z).symm
  refine ⟨I.ok, I.os, I.bare, ⟨I.base.keep, I.base.slot, fun b o q n hx => del_none (I.base.free b o q n hx), I.base.there, fun b xs q => ?_, fun b o u q => ?_, fun b ps q => ?_⟩, I.loc, I.cell, del_none I.free, fun x c q => del_none (I.freeC x c q), fun p hp => ?_, fun a o z => ?_, I.len⟩
  · have := I.base.tups b xs q; rw [del_ne (nx b _ this (by intro z; cases z))]; exact this
  · have := I.base.frzs b o u q; rw [del_ne (nx b _ this (by intro z; cases z))]; exact this
  · obtain ⟨m, this⟩ := I.base.tbls b ps q; exact ⟨m, by rw [del_ne (nx b _ this (by intro z; cases z))]; exact this⟩
  · obtain ⟨a, b, c⟩ := I.pin p hp; exact ⟨a, del_none b, c⟩
  · have ha : a ≠ e := fun q => by subst q; rw [del_self] at z; cases z
    rw [del_ne ha] at z
    exact (I.hok a o z).stay (fun _ _ _ r => r) (fun b r => by rw [del_ne (nx b _ r (by intro q; cases q))]; exact r) fun b xs r => by rw [del_ne (nx b _ r (by intro q; cases q))]; exact r
end
/-- what an own class must have to be raised: its __init__ at f, and what the making asks -/
structure XMk (K : PySem.W.Frag) (C f : Addr) : Prop where
  cls : XCls K C
  made : ∃ (nm q : Str) (N : Addr) (bs bm : List Value) (hdct : Bool) (sn : List Str) (sub : List Value) (ab : Bool) (col : Option Bool) (dd : Option Addr) (k0 k1 k2 k3 k5 : Option Value) (newId inN : String) (bmN : List Value) (Bn : String) (mN : Str → Option Value),
    K.lookup C = some (excClassObj nm q C N bs bm hdct sn sub ab col dd k0 k1 k2 k3 k5 newId) ∧ ExcBaseFacts Bn newId inN bmN ∧ ([.type "ValueError", .type "Exception", .type "BaseException", .type "object"] : List Value).contains (.type Bn) = true ∧
    TailT [.type "ValueError", .type "Exception", .type "BaseException", .type "object"] bm ∧ (∀ h : Heap, K.In h → h.Ns N mN) ∧ mN "__init__" = some (.ref f) ∧ bm.contains (.type "BaseException") = true
  kp : PySem.W.keepIn K (.ref C) = true
  fn : ∃ oI : Obj, K.lookup f = some oI ∧ oI.cls = .type "function"
/-- raise C(..): the arguments, the new exception through its __init__, then what is wanted of it -/
def tRaise (C : Addr) (sp : Sp) (E : XK) (t : TA) : TS := fun _ σ H => t σ H fun vs H1 => vs.length ≤ 100 ∧ ∀ e, H1 e = none → sp (.ref e :: vs) (upd H1 e (ExO e C none)) (fun v H2 => v = .non ∧ ∃ dd, H2 e = some (ExO e C dd) ∧ E (.ref C) dd (del H2 e)) (fun _ _ _ => False)
section
variable {P : Program} {w : World} {K : PySem.W.Frag} {mg : Str → Option Value} {base : Heap} {N : List Str} {qual : Str} {scope : Scope} {f0 : Addr} {cd : Value} {A : Around} {outer : List Env} {s0 : Shared} {H0 : Hp} {E : XK}
variable {k : Nat} {f C : Addr} {fd : FuncData} {ps : List Str} {sp : Sp} {x : Str} {np cpos pos : Pos} {a : Expr} {es : List Expr} {t : TA}
theorem ps_raise (xm : XMk K C f) (F : FnOk P w K mg base (XC P w) k f fd ps sp) (hr : Room (k + 1) (cxOf (XC P w) P w K mg base N qual scope f0 cd A outer s0 H0 E).A) (hg : Gl (cxOf (XC P w) P w K mg base N qual scope f0 cd A outer s0 H0 E) x) (hm : mg x = some (.ref C)) (hb : Binds K fd ps [])
    (ha : PA (cxOf (XC P w) P w K mg base N qual scope f0 cd A outer s0 H0 E) (a :: es) t) (hdb : (x == ("__debug__" : Str)) = false := by decide)
    (hst : starEach (a :: es) (cxOf (XC P w) P w K mg base N qual scope f0 cd A outer s0 H0 E).env = (false, eval a (cxOf (XC P w) P w K mg base N qual scope f0 cd A outer s0 H0 E).env) :: starEach es (cxOf (XC P w) P w K mg base N qual scope f0 cd A outer s0 H0 E).env := by rfl)
    (hpl : (backTo cpos (starEach es (cxOf (XC P w) P w K mg base N qual scope f0 cd A outer s0 H0 E).env)).any (·.1) = false := by rfl) :
    PS (cxOf (XC P w) P w K mg base N qual scope f0 cd A outer s0 H0 E) (.Raise (some (.Call (.Name x np) (a :: es) [] cpos)) none pos) (tRaise C sp E t) := by
  intro pins s σ H D I h
  obtain ⟨nm, q, Nn, bs, bm, hdct, sn, sub, ab, col, dd, k0, k1, k2, k3, k5, newId, inN, bmN, Bn, mN, lk, Fn, hBn, tl, nsN, hi, hbase⟩ := xm.made
  obtain ⟨oI, lf, fc⟩ := xm.fn
  rw [arm_exec_Raise]
  refine wpAny_bind (wpAny_standAt (raise_own (C := C) (nm := nm) (q := q) (N := Nn) (bs := bs) (bm := bm) (hdct := hdct) (sn := sn) (sub := sub) (ab := ab) (col := col) (dd := dd) (k0 := k0) (k1 := k1) (k2 := k2) (k3 := k3) (k5 := k5) (newId := newId) hbase (I.ok.hd rfl) (wpAny_bind (wpAny_mono (wpAny_Call_ofName (ld_glob I hg hm ?_ hdb)) (fun v s₃ h₃ => wpAny_bind (wpAny_standAt (wpAny_pure h₃))) fun _ _ x => x))))
  refine PySem.W.callWith_K (first := []) (h₀ := base) I.ok.mod.kin xm.kp (thn (ha cpos pins s σ H _ I h) fun us s1 ⟨vs, H1, I1, r1, hl, q1⟩ => ⟨I1.kIn, ?_⟩) hst hpl
  have hlu : us.length ≤ sizeLine := by rw [← r1.length]; exact Nat.le_trans hl (by decide)
  obtain ⟨hp, g, d, tk, os⟩ := s1
  refine call_own (hrest := hlu) Fn hBn PySem.F.excBase_ValueError tl (I1.kIn _ _ lk) (nsN _ I1.kIn) hi (I1.kIn _ _ lf) fc fun h' e hge hmade => ?_
  obtain ⟨t0, hge', _, _⟩ := hmade.there
  have I2 : Inv (cxOf (XC P w) P w K mg base N qual scope f0 cd A outer s0 H0 E) pins σ (upd H1 e (ExO e C none)) ⟨h', g, d, tk, os⟩ := I1.laid (t' := tk) hmade.keeps hge (ExO.ok hge')
  have hq := q1 e (I1.hok.fresh hge)
  have r2 : Vals (.ref e :: vs) (.ref e :: us) := .cons rfl r1
  have hl2 : ((Value.ref e :: us) ++ []).length = ps.length := by rw [List.append_nil, ← r2.length]; exact F.len _ _ _ _ hq
  have bd := hb ⟨h', g, d, tk, os⟩ (Value.ref e :: us) I2.kIn hl2
  rw [List.append_nil] at bd
  refine wpAny_call (codeAny_mono (F.run _ _ _ _ ⟨Value.ref e :: us, []⟩ (Value.ref e :: us) (.ref e :: vs) _ _ (hr.make C us []) (I2.env0.make C us []) bd r2 hq) fun r s' hq' => ?_)
  cases r with
  | error x => obtain ⟨_, _, _, _, _, _, _, _, _, _, _, _, _, _, _, z⟩ := hq'; exact z.elim
  | ok fl =>
    cases fl with
    | ret u =>
      obtain ⟨v, H', I3, rv, ev, d3, he3, q3⟩ := I2.after hq'
      subst ev
      obtain ⟨t3, hg3⟩ := ExO.get I3.hok he3
      have hs0 : s0.heap.objs.size ≤ e := Nat.le_trans I1.sz hge
      exact ⟨rv, e, _, rfl, I3.kIn _ _ lk, hg3, rfl, ⟨_, _, _, _, _, rfl⟩, xfirst (Inv.drop I3 he3) hg3 rfl rfl hs0 del_self q3⟩
    | next => exact False.elim hq'
    | brk => exact False.elim hq'
    | cont => exact False.elim hq'
end
end L2.Lw

set_option Elab.async false
set_option linter.all false
set_option maxRecDepth 100000
namespace L2.Lw
open PySem PySem.Spec PyProof.Rows
section
variable {Md : Model} {A : Around} {E : Value → Shared → Prop} {s : Shared}
/-- the frame that holds it, step by step -/
theorem hold2 {base : Heap} {env : Env} {outer : List Env} {L e T0 : Addr} {cls : Value} {dd : Option Addr} {Q : Unit → Shared → Prop}
    (hfr : A.frames = some (env :: outer)) (hl : s.heap.FunFrames base (env :: outer)) (hf : env.frame = some L) (ht : FlD s.heap e cls dd T0)
    (h : ∀ (h' : Heap) (T : Addr), FlD h' e cls dd T → s.heap.objs.size ≤ T → Kp (frs (env :: outer)) [e, T0] s.heap h' → Q () { s with heap := h' }) : wpAny Md A (noteFrame (.ref e) env) (fun _ s2 => wpAny Md A (setFlight (.ref e) none) Q E s2) E s := by
  obtain ⟨oe, vs, oT, ts, he, rfl, rfl, hd, h1, hTe, hT, hdT, h3⟩ := ht
  unfold noteFrame
  simp only [hf]
  refine wpAny_bind (wpAny_field he hd h1 ?_); rw [if_pos (show (Value.ref T0 != Value.none) = true from by simp)]
  refine wpAny_bind (wpAny_field hT hdT h3 ?_); rw [if_neg (show ¬ ((Value.none == rawInt L) = true) from by simp [rawInt])]
  refine wpAny_bind (wpAny_setField hT hdT (Array.getElem?_eq_some_iff.mp h3).1 ?_)
  have other : ∀ b, b ≠ T0 → (s.heap.update T0 (Obj.mapFields (·.setIfInBounds 3 Value.none))).get? b = s.heap.get? b := fun b hb => Heap.get?_update_other _ _ (Ne.symm hb)
  refine entryD (s := { s with heap := s.heap.update T0 (Obj.mapFields (·.setIfInBounds 3 Value.none)) }) hfr (hl.of_keeps fun b o hb hnf => ⟨o, (other b fun q => by subst q; rw [hT] at hb; cases hb; exact hnf ts hdT).trans hb, rfl⟩) hf ((other e (Ne.symm hTe)).trans he) hd (Array.getElem?_eq_some_iff.mp h1).1 fun h' T fl sz kp => ?_
  have z : (s.heap.update T0 (Obj.mapFields (·.setIfInBounds 3 Value.none))).objs.size = s.heap.objs.size := Heap.size_after_update ..
  refine h h' T fl (by rw [← z]; exact sz) ⟨fun b o q hb hx => kp.keep b o ((other b fun r => hx (by simp [r])).trans q) hb fun r => hx (List.mem_cons.mpr (.inl (List.mem_singleton.mp r))), fun b o q hx => kp.slot b o ((other b fun r => hx (by simp [r])).trans q) fun r => hx (List.mem_cons.mpr (.inl (List.mem_singleton.mp r))), by rw [← z]; exact kp.size⟩
end
section
variable {X : Cx} {pins : List (Addr × Obj)} {σ : St} {H : Hp} {s s' : Shared} {E : XK} {e : Value} {E' : Value → Shared → Prop} {R : Shared → Prop}
end
end L2.Lw

set_option Elab.async false
set_option linter.all false
set_option maxRecDepth 100000
namespace L2.Lw
open PySem PySem.Spec PyProof.Rows
section
variable {prog : Program} {w : World} {A : Around} {E : Value → Shared → Prop} {s : Shared} {K : PySem.W.Frag} {ea C C2 : Addr} {oe : Obj} {b : Bool} {Q : Bool → Shared → Prop}
theorem xmatch (X : K.In s.heap) (he : s.heap.get? ea = some oe) (hcls : oe.cls = .ref C) (t2 : PySem.W.typeIn K (.ref C2) = some (.type "type")) (b2 : PySem.W.subIn K (.ref C2) (.type "BaseException") = some true) (hb : PySem.W.subIn K (.ref C) (.ref C2) = some b) {o2 : Obj} {cd2 : ClassData} (lk : K.lookup C2 = some o2) (hd2 : o2.data = .cls cd2) (h : Q b s) :
    wpAny (model prog w) A (excMatches (.ref ea) (.ref C2)) Q E s := by
  have L1 : PySem.W.Looks (model prog w) s.heap (isInstance (.ref C2) (.type "tuple")) false := (PySem.W.looks_typeIn X t2).andThen (PySem.W.looks_subIn X (by rfl))
  have L2 : PySem.W.Looks (model prog w) s.heap (isSubtype (.ref C2) (.type "BaseException")) true := PySem.W.looks_subIn X b2
  have L3 : PySem.W.Looks (model prog w) s.heap (typeOf (.ref ea)) (.ref C) := hcls ▸ (PySem.W.Looks.ld he).andThen .now
  have L4 : PySem.W.Looks (model prog w) s.heap (isSubtype (.ref C) (.ref C2)) b := PySem.W.looks_subIn X hb
  have L5 : PySem.W.Looks (model prog w) s.heap (isType (.ref C2)) true := (PySem.W.Looks.ld (X _ _ lk)).andThen (by rw [hd2]; exact .now)
  unfold excMatches
  refine wpAny_bind (L1.here ?_); rw [if_neg (by decide)]
  refine wpAny_bind (wpAny_pure ?_)
  simp only [List.forIn_cons, List.forIn_nil, isExcClass]
  refine wpAny_bind (wpAny_bind (wpAny_bind (wpAny_bind (L5.here ?_)))); rw [if_pos rfl]
  refine L2.here ?_
  rw [if_neg (by decide)]
  refine wpAny_pure (wpAny_pure (wpAny_bind (L3.here (wpAny_bind (wpAny_bind (wpAny_bind (L4.here ?_)))))))
  cases b with
  | true => rw [if_pos rfl]; exact wpAny_pure (wpAny_pure (wpAny_pure h))
  | false => rw [if_neg (by decide)]; exact wpAny_pure (wpAny_pure (wpAny_pure h))
end
end L2.Lw

set_option Elab.async false
set_option linter.all false
set_option maxRecDepth 100000
namespace L2.Lw
open PySem PySem.Spec PyProof.Rows
/-! ### lambdas: the function that is made -/
/-- a code object, known whole -/
def CdO (c : Addr) (oc : Obj) : HO := .ext fun h => h.get? c = some oc
theorem CdO.ok {P : Program} {w : World} {H : Hp} {h : Heap} {c : Addr} {oc : Obj} (e : h.get? c = some oc) : ObjOk P w H h c (CdO c oc) := ⟨e, ⟨oc, e⟩, fun h1 h2 q k => k _ q⟩
/-- the table of a def's code: the codes of its lambdas that were made already -/
def TabI (H : Hp) (T : Addr) (q : Str) : Prop := ∃ ps, H T = some (.tbl ps) ∧ TriplesOk ps.toList ∧ ∀ pos cv, codeAmong pos ps.toList = some cv → ∃ c oc vs t, cv = .ref c ∧ H c = some (CdO c oc) ∧ oc.data = .fields vs ∧ vs[1]? = some (.str q t)
theorem TabI.of {H H' : Hp} {T : Addr} {q : Str} (x : TabI H T q) (k : ∀ b o, H b = some o → (∀ xs, o ≠ .lst xs) → H' b = some o) : TabI H' T q := by
  obtain ⟨ps, e, ok, r⟩ := x
  refine ⟨ps, k T _ e (fun xs z => nomatch z), ok, fun pos cv h => ?_⟩
  obtain ⟨c, oc, vs, t, e1, e2, r'⟩ := r pos cv h
  exact ⟨c, oc, vs, t, e1, k c _ e2 (fun xs z => nomatch z), r'⟩
theorem TabI.same {H H' : Hp} {T : Addr} {q : Str} (x : TabI H T q) (e : Same H H') : TabI H' T q := x.of fun b o h _ => e b o h
theorem TabI.but {H H' : Hp} {T b : Addr} {q : Str} {xs : List V} (x : TabI H T q) (e : But b H H') (hb : H b = some (.lst xs)) : TabI H' T q := x.of fun c o h n => e c o h (fun z => by subst z; rw [hb] at h; exact n xs (Option.some.inj h).symm)
theorem among_snoc {pos : Pos} {a b : Int} {c cv : Value} (l : List Value) (ok : TriplesOk l) (h : codeAmong pos (l ++ [rawInt a, rawInt b, c]) = some cv) : codeAmong pos l = some cv ∨ cv = c := by
  fun_induction TriplesOk l with
  | case1 =>
    simp only [List.nil_append, codeAmong, rawInt] at h
    split at h
    · exact .inr (Option.some.inj h).symm
    · cases h
  | case2 a' t b' u x rest ih =>
    simp only [List.cons_append, codeAmong] at h ⊢
    split at h
    · rename_i hc; rw [if_pos hc]; exact .inl h
    · rename_i hc; rw [if_neg hc]; exact ih ok h
  | case3 l h1 h2 => exact ok.elim
/-- the module of the built-ins -/
def BmAt (mg : Str → Option Value) (base : Heap) : Prop := ∃ bm ob, mg "__builtins__" = some (.ref bm) ∧ bm ≠ builtinsNs ∧ base.get? bm = some ob ∧ ob.cls = .type "module" ∧ ob.dict = some builtinsNs ∧ ob.data = .plain
section
variable {X : Cx} {pins : List (Addr × Obj)} {σ : St} {H : Hp} {s : Shared} {args : Arguments} {body : Expr} {scope : Scope} {pos : Pos} {c T : Addr} {Q : Value → Shared → Prop} {E : Value → Shared → Prop}
/-- lambda: .. -/
theorem lam_eval (I : Inv X pins σ H s) (hcode : X.env.code = .ref c) (C : PySem.W.CodeHd X.base c T) (Tb : TabI H T (X.env.qual ++ "<lambda>")) (B : BmAt X.mg X.base) (hfree : ∀ y ∈ scope.names, y.2 = .free → ∃ c, X.env.cells.lookup y.1 = some c)
    (hdef : defaultsOf args X.env = ([], []))
    (k : ∀ (f : Addr) (H1 : Hp) (s1 : Shared) (c' : Addr) (ctv pm : Value), Inv X pins σ H1 s1 → TabI H1 T (X.env.qual ++ "<lambda>") → (∀ b o, H b = some o → b ≠ T → H1 b = some o) → (∀ b, b < s.heap.objs.size → H b = none → H1 b = none) → H1 f = none → s.heap.objs.size ≤ f →
      s1.heap.get? f = some (PySem.W.kla_obj "<lambda>" (X.env.qual ++ "<lambda>") args body scope (cloFrom X.env.cells scope.names []) pm c' ctv) → s1.heap.CodeRec (.ref c') (X.env.qual ++ "<lambda>") →
      (∃ oc, H1 c' = some (CdO c' oc)) → Q (.ref f) s1) :
    wpAny (model X.prog X.w) X.A (eval (.Lambda args body scope pos) X.env) Q E s := by
  obtain ⟨ps, hT, ok, r⟩ := Tb
  obtain ⟨bm, ob, b1, b2, b3, b4, b5, b6⟩ := B
  have nT : ∀ b o, X.base.get? b = some o → b ≠ T := fun b o e z => by have := (I.bs b o e).2; rw [z, hT] at this; cases this
  have hg0 : X.base.Ns mainGlobals X.mg := I.mod.glob
  have hg := hg0.keeps I.bk
  obtain ⟨og, eg, epg, hog, hdg, _⟩ := id hg0
  have hgP : mainGlobals ≠ T := nT _ _ hog
  have hbG : bm ≠ mainGlobals := fun z => by rw [z, hog] at b3; cases b3; rw [hdg] at b6; cases b6
  have hP : s.heap.get? T = some (PySem.W.tabObj ps) := I.hok T _ hT
  have hTl : T < s.heap.objs.size := Heap.lt_size hP
  refine PySem.W.kla_eval hdef ?_
  cases hx : codeAmong pos ps.toList with
  | none =>
    refine PySem.W.kla_makeFunction (mg := X.mg) (closure_ok hfree) I.ok.glob hg hcode (C.keeps I.bk) hP ok hx hgP ⟨bm, ob, b1, b2, hbG, nT _ _ b3, I.bk _ _ b3, b4, b5, b6⟩ fun c' ctv h' tk xb ge lt rec tb => ?_
    obtain ⟨c2, oc, vs, t, e2, hoc, hd, hv⟩ := id rec
    cases e2
    have hc'T : c' ≠ T := Nat.ne_of_gt (Nat.lt_of_lt_of_le hTl ge)
    have fc : H c' = none := I.hok.fresh ge
    let H1 : Hp := upd (upd H T (.tbl (ps ++ #[rawInt pos.line, rawInt pos.col, .ref c']))) c' (CdO c' oc)
    have g1 : ∀ b, b ≠ T → b ≠ c' → H1 b = H b := fun b n1 n2 => by show upd (upd H T _) c' _ b = _; rw [upd_ne n2, upd_ne n1]
    have gT : H1 T = some (.tbl (ps ++ #[rawInt pos.line, rawInt pos.col, .ref c'])) := by show upd (upd H T _) c' _ T = _; rw [upd_ne (Ne.symm hc'T), upd_same]
    have gc : H1 c' = some (CdO c' oc) := upd_same
    have gk : ∀ b o, H b = some o → b ≠ T → H1 b = some o := fun b o e n => by rw [g1 b n (ne_of_none e fc)]; exact e
    have gn : ∀ b, b < s.heap.objs.size → H b = none → H1 b = none := fun b l e => by rw [g1 b (fun z => by rw [z, hT] at e; cases e) (Nat.ne_of_lt (Nat.lt_of_lt_of_le l ge))]; exact e
    have kp : ∀ b o, b ≠ T → s.heap.get? b = some o → (h'.push (PySem.W.kla_obj "<lambda>" (X.env.qual ++ "<lambda>") args body scope (cloFrom X.env.cells scope.names []) ((X.mg "__name__").getD .none) c' ctv)).get? b = some o := fun b o n e => Heap.get?_push_of_some _ (xb b o n e)
    have nn : ∀ b, H b = none → b ≠ T := fun b e z => by rw [z, hT] at e; cases e
    have un : Un X.fs [] H H1 s.heap (h'.push (PySem.W.kla_obj "<lambda>" (X.env.qual ++ "<lambda>") args body scope (cloFrom X.env.cells scope.names []) ((X.mg "__name__").getD .none) c' ctv)) := by
      refine ⟨fun b o e n _ _ => kp b o (nn b n) e, fun b o e n _ _ => ⟨o.slots, kp b o (nn b n) e⟩, fun b o e n _ => gn b (Heap.lt_size e) n, fun b o e _ => ?_, fun b xs e => gk b _ e (fun z => by rw [z, hT] at e; cases e), fun b o u e => gk b _ e (fun z => by rw [z, hT] at e; cases e), fun b qs e => ?_⟩
      · by_cases hb : b = T
        · subst hb; exact ⟨_, Heap.get?_push_of_some _ tb⟩
        · exact ⟨o, kp b o hb e⟩
      · by_cases hb : b = T
        · subst hb; rw [hT] at e; cases e; exact ⟨_, gT⟩
        · exact ⟨#[], by rw [gk b _ e hb]; simp⟩
    have hok : HOk X.prog X.w H1 (h'.push (PySem.W.kla_obj "<lambda>" (X.env.qual ++ "<lambda>") args body scope (cloFrom X.env.cells scope.names []) ((X.mg "__name__").getD .none) c' ctv)) := fun b o e => by
      by_cases hb : b = c'
      · subst hb; rw [gc] at e; cases e; exact CdO.ok (Heap.get?_push_of_some _ hoc)
      · by_cases hb2 : b = T
        · subst hb2; rw [gT] at e; cases e; exact Heap.get?_push_of_some _ tb
        · rw [g1 b hb2 hb] at e
          refine (I.hok b o e).stay (fun d u hd r => kp d u ?_ r) (fun d r => gk d _ r (fun z => by rw [z, hT] at r; cases r)) fun d xs r => gk d _ r (fun z => by rw [z, hT] at r; cases r)
          rcases hd with z | z
          · rw [z]; exact hb2
          · intro z2; rw [z2, hT] at z; cases z
    have I1 := I.un (t' := tk) un hok
    have fge : s.heap.objs.size ≤ h'.objs.size := Nat.le_trans ge (Nat.le_of_lt lt)
    refine k h'.objs.size H1 _ c' ctv _ I1 ?_ gk gn ?_ fge (Heap.get?_push_size _ rfl) (rec.push _) ⟨oc, gc⟩
    · refine ⟨_, gT, ?_, fun pos' cv h => ?_⟩
      · rw [Array.toList_append]; exact TriplesOk_snoc _ _ _ _ ok
      · rw [Array.toList_append] at h
        rcases among_snoc _ ok h with z | z
        · obtain ⟨d, od, ws, u, e1, e2, r'⟩ := r pos' cv z
          exact ⟨d, od, ws, u, e1, gk d _ e2 (fun z => by rw [z, hT] at e2; cases e2), r'⟩
        · exact ⟨c', oc, vs, t, z, gc, hd, hv⟩
    · rw [g1 _ (Nat.ne_of_gt (Nat.lt_of_lt_of_le hTl fge)) (Nat.ne_of_gt lt)]; exact I.hok.fresh fge
  | some cv =>
    obtain ⟨c', oc, vs, t, rfl, e2, hd, hv⟩ := r pos cv hx
    refine PySem.W.kla_makeFunctionHit (mg := X.mg) (closure_ok hfree) I.ok.glob hg hcode (C.keeps I.bk) hP ok hx ⟨bm, ob, b1, b2, hbG, nT _ _ b3, I.bk _ _ b3, b4, b5, b6⟩ fun ctv h' tk hk hsz => ?_
    have I1 := I.kept (t' := tk) (h' := h'.push _) fun b o e => Heap.get?_push_of_some { cls := .type "function", data := .func (PySem.W.kla_fn "<lambda>" (X.env.qual ++ "<lambda>") args body scope (cloFrom X.env.cells scope.names []) ((X.mg "__name__").getD .none) (.ref c') ctv) } (hk b o e)
    have hoc : s.heap.get? c' = some oc := (I.hok c' _ e2).1
    exact k h'.objs.size H _ c' ctv _ I1 ⟨ps, hT, ok, r⟩ (fun b o e _ => e) (fun b _ e => e) (I.hok.fresh hsz) hsz (Heap.get?_push_size _ rfl) ⟨c', oc, vs, t, rfl, Heap.get?_push_of_some _ (hk _ _ hoc), hd, hv⟩ ⟨oc, e2⟩
end
end L2.Lw

set_option Elab.async false
set_option linter.all false
set_option maxRecDepth 100000
namespace L2.Lw
open PySem PySem.Spec PyProof.Rows
/-! ### lambdas: the call -/
/-- what a lambda holds of the names around it: cells, and in them the values -/
structure Capt (N : List Str) (scope : Scope) (cl : List (Str × Addr)) (σ : St) (H : Hp) (h : Heap) : Prop where
  inj : ∀ x y c, cl.lookup x = some c → cl.lookup y = some c → x = y
  has : ∀ x, scope.names.lookup x = some .free → ∃ c, cl.lookup x = some c
  cell : ∀ x c, cl.lookup x = some c → (∃ v, h.IsCell c v) ∧ H c = none
  val : ∀ (i : Nat) (x : Str) (v : V), N[i]? = some x → σ[i]? = some (some v) → scope.names.lookup x = some .free → ∃ u c, RelV v u ∧ cl.lookup x = some c ∧ h.IsCell c (some u)
  len : σ.length = N.length
theorem Capt.keeps {N : List Str} {scope : Scope} {cl : List (Str × Addr)} {σ : St} {H H' : Hp} {h h' : Heap} (x : Capt N scope cl σ H h) (k : ∀ y b o, cl.lookup y = some b → h.get? b = some o → H b = none → h'.get? b = some o ∧ H' b = none) : Capt N scope cl σ H' h' := by
  refine ⟨x.inj, x.has, fun y c e => ?_, fun i y v e1 e2 e3 => ?_, x.len⟩
  · obtain ⟨⟨v, o, ho, hd⟩, hn⟩ := x.cell y c e
    obtain ⟨a, b⟩ := k y c o e ho hn
    exact ⟨⟨v, o, a, hd⟩, b⟩
  · obtain ⟨u, c, r, e, ⟨o, ho, hd⟩⟩ := x.val i y v e1 e2 e3
    exact ⟨u, c, r, e, o, (k y c o e ho (x.cell y c e).2).1, hd⟩
/-- the context of a lambda's body -/
def cxL (CX : CXT) (P : Program) (w : World) (K : PySem.W.Frag) (mg : Str → Option Value) (base : Heap) (N : List Str) (qual : Str) (scope : Scope) (f : Addr) (cd : Value) (cl : List (Str × Addr)) (A : Around) (outer : List Env) (s : Shared) (H : Hp) (E : XK) : Cx where
  prog := P
  w := w
  K := K
  mg := mg
  base := base
  A := A.deeper (PySem.W.envX qual scope s.heap.objs.size f cd cl)
  N := N
  s_0 := s
  H_0 := H
  env := PySem.W.envX qual scope s.heap.objs.size f cd cl
  outer := outer
  stack := PySem.W.envX qual scope s.heap.objs.size f cd cl :: outer
  ex := []
  calm := true
  fn := fun _ => false
  pn := []
  xe := fun e s' => wpAny (model P w) (A.deeper (PySem.W.envX qual scope s.heap.objs.size f cd cl)) (leaving (PySem.W.envX qual scope s.heap.objs.size f cd cl) e) (fun _ s'' => CX outer H s E e s'') (fun e' s'' => CX outer H s E e' s'') s'
/-- a lambda's scope: no parameter, no name of its own -/
structure LamScope (scope : Scope) : Prop where
  kind : scope.kind = .function
  co : scope.isCoroutine = false
  gen : scope.isGenerator = false
  names : ∀ y ∈ scope.names, y.2 ≠ .cell ∧ y.2 ≠ .local
section
variable {P : Program} {w : World} {K : PySem.W.Frag} {mg : Str → Option Value} {base : Heap} {N : List Str} {qual : Str} {scope : Scope} {f : Addr} {cd : Value} {cl : List (Str × Addr)} {A : Around} {outer : List Env} {s s1 : Shared} {H : Hp} {E : XK} {CX : CXT} {σ : St}
theorem inv_lam (S : LamScope scope) (hd : A.handled = none) (e0 : Env0 P w K mg base A outer s H) (C : Capt N scope cl σ H s.heap) {h1 : Heap} {t1 : Nat} (hns : h1.Ns s.heap.objs.size (fun x => ([] : List (Str × Value)).reverse.lookup x)) (hk : ∀ b o, s.heap.get? b = some o → h1.get? b = some o) :
    Inv (cxL CX P w K mg base N qual scope f cd cl A outer s H E) [] σ H { s with heap := h1, toks := t1 } := by
  have noA : ∀ b : Addr, b ∉ (cxL CX P w K mg base N qual scope f cd cl A outer s H E).ex := fun b z => absurd (show b ∈ ([] : List Addr) from z) (by simp)
  refine ⟨⟨e0.mod, S.kind, rfl, rfl, Nat.le_refl _, C.inj, fun y hy => ?_, fun y c z _ => absurd z (by show ¬ false = true; simp), fun _ => hd, Around.frames_deeper e0.frames, .inr ⟨rfl, rfl⟩, fun b z => absurd z (noA b), e0.bs, e0.bsz, fun b _ _ => noA b, fun b z => absurd z (noA b), e0.funs, e0.frf⟩,
    rfl, e0.bare, Un.kept hk, ⟨_, hns, fun i y v h1 h2 h3 => ?_⟩, fun y c h => ?_, e0.hok.fresh (Nat.le_refl _), fun y c h => (C.cell y c h).2, fun p hp => absurd (show p ∈ ([] : List (Addr × Obj)) from hp) (by simp), e0.hok.kept hk, C.len⟩
  · have hy : scope.names.lookup y = some .cell ∨ scope.names.lookup y = some .free := hy
    rcases hy with hy | hy
    · exact absurd rfl (S.names _ (PySem.mem_of_lookup hy)).1
    · exact C.has y hy
  · have hv : scope.names.lookup y = some .local ∨ scope.names.lookup y = some .cell ∨ scope.names.lookup y = some .free := h3
    rcases hv with z | z | z
    · exact absurd rfl (S.names _ (PySem.mem_of_lookup z)).2
    · exact absurd rfl (S.names _ (PySem.mem_of_lookup z)).1
    · obtain ⟨u, c, r, e, ⟨o, ho, hd⟩⟩ := C.val i y v h1 h2 z
      exact ⟨u, r, .inr ⟨.inr z, c, e, o, hk _ _ ho, hd⟩⟩
  · obtain ⟨⟨v, o, ho, hd⟩, _⟩ := C.cell y c h
    exact ⟨v, o, hk _ _ ho, hd⟩
/-- the lambda at f is called: its body's reading -/
theorem call_lam {k : Nat} {args : Arguments} {body : Expr} {pm ctv : Value} {c' : Addr} {t : TE} {Q : VK} (S : LamScope scope) (hr : Room (k + 1) A) (e0 : Env0 P w K mg base A outer s H) (C : Capt N scope cl σ H s.heap)
    (ho : s.heap.get? f = some (PySem.W.kla_obj "<lambda>" qual args body scope cl pm c' ctv)) (hcd : s.heap.CodeRec (.ref c') qual) (hbi : bindArgs (PySem.W.kla_fn "<lambda>" qual args body scope cl pm (.ref c') ctv) ⟨[], []⟩ = pure [])
    (hb : PE (cxL CX P w K mg base N qual scope f (.ref c') cl A outer s H E) body t) (q : t σ H Q) : codeAny (model P w) A (.call (.ref f) ⟨[], []⟩) (CR CX outer P w H s Q E) s := by
  refine PySem.W.kla_callFunE hr.depth ho rfl S.co S.gen rfl hcd ?_
  rw [hbi]
  refine wpAny_pure (wpAny_newFunctionEnv (fun x hx => (S.names x hx).1) (fun x hx => absurd hx (by simp)) (fun h₁ hns hsb => ?_) S.kind)
  have hk : ∀ b o, s.heap.get? b = some o → h₁.get? b = some o := fun b o e => hsb.extBut b o (Nat.ne_of_lt (Heap.lt_size e)) (Heap.get?_push_of_some _ e)
  refine ⟨(e0.mod.nolimit.keeps fun b o e => (e0.bs b o e).1).keeps hk, ?_⟩
  show codeAny _ _ (.expr body (PySem.W.envX qual scope s.heap.objs.size f (.ref c') cl)) _ _
  have I := inv_lam (CX := CX) (qual := qual) (f := f) (cd := .ref c') (E := E) (t1 := s.toks + ([] : List (Str × Value)).length) S hr.hd e0 C hns hk
  refine PySem.W.kla_codeExpr (wpAny_mono (hb [] _ σ H Q I q) (fun u s' z => ?_) fun e s' z => z)
  obtain ⟨v, H', J, rv, q'⟩ := z
  exact ⟨v, H', J.os, J.bare, J.base, J.hok, rv, q'⟩
/-- an exception of a callee leaves the lambda, too -/
theorem xpassL : Passes (XC P w) (cxL (XC P w) P w K mg base N qual scope f cd cl A outer s H E) E := by
  intro pins σ H1 s1 e s' I h
  obtain ⟨ea, T, cls, dd, H', rfl, fl, n1, n2, f1, f2, os, bare, un, hok, q⟩ := h
  obtain ⟨hh, g, d, t, os'⟩ := s'
  obtain rfl : os' = s1.os := os
  have I' := I.call (h' := hh) (g' := g) (d' := d) (t' := t) (ch := []) un hok bare (fun b z => absurd z (by simp))
  have sz := I.sz
  show wpAny (model P w) (A.deeper (PySem.W.envX qual scope s.heap.objs.size f cd cl)) (leaving (PySem.W.envX qual scope s.heap.objs.size f cd cl) (.ref ea)) _ _ _
  refine leave2 (outer := outer) (L := s.heap.objs.size) I'.ok.frames I'.stack rfl fl fun h' T' fl' sz' kp => ?_
  have k := Inv.left I' rfl rfl kp (fun b hb => by
    rcases List.mem_cons.mp hb with z | z
    · subst z; exact ⟨Nat.le_trans sz n1, f1⟩
    · rw [List.mem_singleton.mp z]; exact ⟨Nat.le_trans sz n2, f2⟩)
  have sz2 : s.heap.objs.size ≤ hh.objs.size := I'.sz
  exact ⟨ea, T', cls, dd, H', rfl, fl', Nat.le_trans sz n1, Nat.le_trans sz2 sz', f1, hok.fresh sz', I'.os, bare, k.1, k.2, q⟩
end
/-! ### what a lambda holds, from the frame that makes it -/
/-- the names of a lambda that it takes from around -/
structure LamFrom (sc scope : Scope) : Prop where
  uniq : ∀ y ∈ scope.names, scope.names.lookup y.1 = some y.2
  free : ∀ y ∈ scope.names, y.2 = .free → sc.names.lookup y.1 = some .cell ∨ sc.names.lookup y.1 = some .free
section
variable {X : Cx} {pins : List (Addr × Obj)} {σ : St} {H : Hp} {s : Shared} {scope : Scope}
theorem Inv.hfree (I : Inv X pins σ H s) (L : LamFrom X.env.scope scope) : ∀ y ∈ scope.names, y.2 = .free → ∃ c, X.env.cells.lookup y.1 = some c := fun y hy e => by
  rcases L.free y hy e with k | k
  · exact I.ok.has _ (.inl k)
  · exact I.ok.has _ (.inr k)
theorem clo_cells (I : Inv X pins σ H s) (L : LamFrom X.env.scope scope) {y : Str} {c : Addr} (e : (cloFrom X.env.cells scope.names []).lookup y = some c) : X.env.cells.lookup y = some c := by
  rcases cloFrom_mem (PySem.mem_of_lookup e) with hm | ⟨h1, rfl⟩
  · cases hm
  · obtain ⟨c, hc⟩ := Inv.hfree I L _ h1 rfl
    rw [hc]; rfl
theorem Inv.capt (I : Inv X pins σ H s) (L : LamFrom X.env.scope scope) : Capt X.N scope (cloFrom X.env.cells scope.names []) σ H s.heap := by
  have hfree := Inv.hfree I L
  have cm : ∀ {y c}, (y, c) ∈ cloFrom X.env.cells scope.names [] → X.env.cells.lookup y = some c := fun {y c} hm => by
    rcases cloFrom_mem hm with hm | ⟨h1, rfl⟩
    · cases hm
    · obtain ⟨c, hc⟩ := hfree _ h1 rfl
      rw [hc]; rfl
  have has : ∀ x, scope.names.lookup x = some .free → ∃ c, (cloFrom X.env.cells scope.names []).lookup x = some c := fun x h => mem_lookup (cloFrom_has (cells := X.env.cells) (acc := []) (PySem.mem_of_lookup h))
  refine ⟨fun x y c e1 e2 => I.ok.inj x y c (cm (PySem.mem_of_lookup e1)) (cm (PySem.mem_of_lookup e2)), has, fun x c e => ?_, fun i x v e1 e2 e3 => ?_, I.len⟩
  · have e' := cm (PySem.mem_of_lookup e)
    exact ⟨I.cell x c e', I.freeC x c e'⟩
  · obtain ⟨m, _, hl⟩ := I.loc
    have hk := L.free _ (PySem.mem_of_lookup e3) rfl
    obtain ⟨c, hc⟩ := has x e3
    have hc' := cm (PySem.mem_of_lookup hc)
    obtain ⟨u, r, lk⟩ := hl i x v e1 e2 (hk.elim (fun z => .inr (.inl z)) fun z => .inr (.inr z))
    rcases lk with ⟨z, _⟩ | ⟨_, c2, hc2, hi⟩
    · have z : X.env.scope.names.lookup x = some .local := z
      rcases hk with y | y <;> (rw [z] at y; cases y)
    · rw [hc'] at hc2; cases hc2
      exact ⟨u, c, r, hc, hi⟩
end
end L2.Lw

set_option Elab.async false
set_option linter.all false
set_option maxRecDepth 100000
namespace L2.Lw
open PySem PySem.Spec PyProof.Rows
/-! ### an exception is caught -/
/-- stands apart from what the frame knows -/
structure Far (X : Cx) (pins : List (Addr × Obj)) (b : Addr) : Prop where
  s0 : X.s_0.heap.objs.size ≤ b
  loc : b ≠ X.env.locals
  cel : ∀ x c, X.env.cells.lookup x = some c → c ≠ b
  pin : ∀ p ∈ X.pn ++ pins, p.1 ≠ b
section
variable {X : Cx} {pins : List (Addr × Obj)} {σ : St} {H : Hp} {s s' : Shared} {E : XK} {e : Value} {E' : Value → Shared → Prop} {R : Shared → Prop}
theorem far_of (I : Inv X pins σ H s) {b : Addr} (hb : s.heap.objs.size ≤ b) : Far X pins b :=
  ⟨Nat.le_trans I.sz hb, fun z => by subst z; exact absurd I.lt (Nat.not_lt_of_le hb), fun x c l z => by
      subst z
      obtain ⟨v, o, ho, _⟩ := I.cell x c l
      exact absurd (Heap.lt_size ho) (Nat.not_lt_of_le hb), fun p hp z => by
      subst z; exact absurd (Heap.lt_size (I.pin p hp).1) (Nat.not_lt_of_le hb)⟩
theorem land2 (hst : X.stack = X.env :: X.outer) (hfr : X.env.frame = some X.env.locals) (I : Inv X pins σ H s) (h : XC X.prog X.w X.stack H s E e s')
    (k : ∀ (s3 : Shared) (H' : Hp) (ea T : Addr) (cls : Value) (dd : Option Addr), e = .ref ea → Inv X pins σ H' s3 → FlD s3.heap ea cls dd T → Far X pins ea → Far X pins T → H' ea = none → H' T = none → E cls dd H' → R s3) :
    wpAny (model X.prog X.w) X.A (noteFrame e X.env) (fun _ s2 => wpAny (model X.prog X.w) X.A (setFlight e none) (fun _ s3 => R s3) E' s2) E' s' := by
  obtain ⟨ea, T, cls, dd, H', rfl, fl, n1, n2, f1, f2, os, bare, un, hok, q⟩ := h
  obtain ⟨hh, g, d, t, os'⟩ := s'
  obtain rfl : os' = s.os := os
  have I' := I.call (h' := hh) (g' := g) (d' := d) (t' := t) (ch := []) un hok bare (fun b z => absurd z (by simp))
  have stk := I'.stack
  have frm := I'.ok.frames
  rw [hst] at stk frm
  have hea : ea < hh.objs.size := by obtain ⟨oe, vs, oT, ts, he, _⟩ := fl; exact Heap.lt_size he
  refine hold2 frm stk hfr fl fun h' T' fl' sz' kp => ?_
  have far : ∀ b : Addr, s.heap.objs.size ≤ b → (b ∈ X.ex ∨ X.s_0.heap.objs.size ≤ b) ∧ b ≠ X.env.locals ∧ (∀ x c, X.env.cells.lookup x = some c → c ≠ b) ∧ ∀ p ∈ X.pn ++ pins, p.1 ≠ b := fun b hb =>
    let f := far_of I hb; ⟨.inr f.s0, f.loc, f.cel, f.pin⟩
  have hH : ∀ b, b ∈ ([ea, T] : List Addr) → H' b = none ∧ s.heap.objs.size ≤ b := fun b hb => by
    rcases List.mem_cons.mp hb with z | z
    · subst z; exact ⟨f1, n1⟩
    · rw [List.mem_singleton.mp z]; exact ⟨f2, n2⟩
  have J : Inv X pins σ H' ⟨h', g, d, t, s.os⟩ := by
    refine Inv.call (s := ⟨hh, g, d, t, s.os⟩) (h' := h') (g' := g) (d' := d) (t' := t) (ch := [ea, T]) I' ⟨fun b o z n hf hx => kp.keep b o z (by rw [hst] at hf; exact hf) hx, fun b o z n hf hx => kp.slot b o z hx, fun b o z n _ => n, fun b o z hx => ?_, fun _ _ z => z, fun _ _ _ z => z, fun _ ps z => ⟨#[], by rw [z]; simp⟩⟩ (fun a o z => ?_) bare (fun b hb => far b (hH b hb).2)
    · obtain ⟨sl, r⟩ := kp.slot b o z hx; exact ⟨_, r⟩
    · refine (hok a o z).stay (fun b u hb r => kp.keep b u r (fun y => ?_) fun y => ?_) (fun _ r => r) fun _ _ r => r
      · have := I'.stkFree b (by rw [hst]; exact y)
        rcases hb with w | w
        · subst w; rw [z] at this; cases this
        · rw [w] at this; cases this
      · have := (hH b y).1
        rcases hb with w | w
        · subst w; rw [z] at this; cases this
        · rw [w] at this; cases this
  exact k _ H' ea T' cls dd rfl J fl' (far_of I n1) (far_of I (Nat.le_trans n1 (Nat.le_trans (Nat.le_of_lt hea) sz'))) f1 (hok.fresh sz') q
/-- an object that was not tracked is tracked from here on -/
theorem Inv.track {a : Addr} {o : HO} (I : Inv X pins σ H s) (hn : H a = none) (f : Far X pins a) (new : ObjOk X.prog X.w (upd H a o) s.heap a o) : Inv X pins σ (upd H a o) s := by
  refine ⟨I.ok, I.os, I.bare, ⟨I.base.keep, I.base.slot, fun b ob e n hx => ?_, I.base.there, fun b xs e => ?_, fun b ob u e => ?_, fun b ps e => ?_⟩, I.loc, I.cell, ?_, fun x c e => ?_, fun p hp => ?_, fun b u e => ?_, I.len⟩
  · rw [upd_ne (Nat.ne_of_lt (Nat.lt_of_lt_of_le (Heap.lt_size e) f.s0))]; exact I.base.free b ob e n hx
  · have := I.base.tups b xs e; rw [upd_ne (ne_of_none this hn)]; exact this
  · have := I.base.frzs b ob u e; rw [upd_ne (ne_of_none this hn)]; exact this
  · obtain ⟨m, this⟩ := I.base.tbls b ps e; exact ⟨m, by rw [upd_ne (ne_of_none this hn)]; exact this⟩
  · rw [upd_ne (Ne.symm f.loc)]; exact I.free
  · rw [upd_ne (f.cel x c e)]; exact I.freeC x c e
  · obtain ⟨a1, b1, r⟩ := I.pin p hp; exact ⟨a1, by rw [upd_ne (f.pin p hp)]; exact b1, r⟩
  · by_cases hb : b = a
    · subst hb; rw [upd_same] at e; cases e; exact new
    · rw [upd_ne hb] at e
      exact (I.hok b u e).stay (fun _ _ _ r => r) (fun c r => by rw [upd_ne (ne_of_none r hn)]; exact r) fun c xs r => by rw [upd_ne (ne_of_none r hn)]; exact r
/-- and no more -/
theorem Inv.dropx {a : Addr} {φ : Heap → Prop} (I : Inv X pins σ H s) (he : H a = some (.ext φ)) : Inv X pins σ (del H a) s := by
  have nx : ∀ b u', H b = some u' → (∀ ψ, u' ≠ .ext ψ) → b ≠ a := fun b u' z n q => by subst q; rw [he] at z; exact n φ (Option.some.inj z).symm
  refine ⟨I.ok, I.os, I.bare, ⟨I.base.keep, I.base.slot, fun b o q n hx => del_none (I.base.free b o q n hx), I.base.there, fun b xs q => ?_, fun b o u q => ?_, fun b ps q => ?_⟩, I.loc, I.cell, del_none I.free, fun x c q => del_none (I.freeC x c q), fun p hp => ?_, fun b o z => ?_, I.len⟩
  · have := I.base.tups b xs q; rw [del_ne (nx b _ this (by intro ψ z; cases z))]; exact this
  · have := I.base.frzs b o u q; rw [del_ne (nx b _ this (by intro ψ z; cases z))]; exact this
  · obtain ⟨m, this⟩ := I.base.tbls b ps q; exact ⟨m, by rw [del_ne (nx b _ this (by intro ψ z; cases z))]; exact this⟩
  · obtain ⟨a, b, c⟩ := I.pin p hp; exact ⟨a, del_none b, c⟩
  · have ha : b ≠ a := fun q => by subst q; rw [del_self] at z; cases z
    rw [del_ne ha] at z
    exact (I.hok b o z).stay (fun _ _ _ r => r) (fun c r => by rw [del_ne (nx c _ r (by intro ψ q; cases q))]; exact r) fun c xs r => by rw [del_ne (nx c _ r (by intro ψ q; cases q))]; exact r
/-- the names' dict has changed somehow -/
theorem Inv.gone (I : Inv X pins σ H s) {h' : Heap} {m' : Str → Option Value} {t' : Nat} (hn : h'.Ns X.env.locals m') (sb : Heap.SameBut X.env.locals s.heap h') : Inv X pins (List.replicate X.N.length none) H { s with heap := h', toks := t' } := by
  have ne : ∀ b o, X.s_0.heap.get? b = some o → b ≠ X.env.locals := fun b o e => Nat.ne_of_lt (Nat.lt_of_lt_of_le (Heap.lt_size e) I.ok.above)
  refine ⟨I.ok, I.os, I.bare, ⟨fun b o e n hb hx => (sb.2 b (ne b o e)).trans (I.base.keep b o e n hb hx), fun b o e n hb hx => ?_, I.base.free, fun b o e hx => ?_, I.base.tups, I.base.frzs, I.base.tbls⟩, ⟨m', hn, fun i x v e1 e2 e3 => ?_⟩, fun x c e => ?_, I.free, I.freeC, fun p hp => ?_, fun b u e => ?_, by simp⟩
  · obtain ⟨sl, z⟩ := I.base.slot b o e n hb hx; exact ⟨sl, (sb.2 b (ne b o e)).trans z⟩
  · obtain ⟨o', z⟩ := I.base.there b o e hx; exact ⟨o', (sb.2 b (ne b o e)).trans z⟩
  · rw [List.getElem?_replicate] at e2
    split at e2
    · cases e2
    · cases e2
  · obtain ⟨v, z⟩ := I.cell x c e; exact ⟨v, z.sameBut sb (I.cne x c e)⟩
  · obtain ⟨e, n, nl, r⟩ := I.pin p hp; exact ⟨(sb.2 p.1 nl).trans e, n, nl, r⟩
  · refine (I.hok b u e).stay (fun c v hc r => (sb.2 c ?_).trans r) (fun _ r => r) fun _ _ r => r
    intro z
    rcases hc with y | y
    · rw [y] at z; rw [z, I.free] at e; cases e
    · rw [z, I.free] at y; cases y
/-- an exception while its suite runs: class and dict -/
def ExA (ea C : Addr) (dd : Option Addr) : HO := .ext fun h => ∃ vs sl, h.get? ea = some ⟨.ref C, dd, .fields vs, sl⟩
theorem ExA.ok {P : Program} {w : World} {h : Heap} {ea C : Addr} {dd : Option Addr} {vs : Array Value} {sl : Array (Option Value)} (he : h.get? ea = some ⟨.ref C, dd, .fields vs, sl⟩) : ObjOk P w H h ea (ExA ea C dd) :=
  ⟨⟨vs, sl, he⟩, ⟨_, he⟩, fun h1 h2 ⟨a, b, q⟩ k => ⟨a, b, k _ q⟩⟩
/-- the frame while a suite of except runs -/
abbrev heldX (X : Cx) (e : Value) : Cx := { X with A := X.A.mark (some e), calm := false, xe := fun _ _ => False }
theorem Inv.held (I : Inv X pins σ H s) (e : Value) : Inv (heldX X e) pins σ H s :=
  ⟨⟨I.ok.mod, I.ok.kind, I.ok.glob, I.ok.blt, I.ok.above, I.ok.inj, I.ok.has, I.ok.cab, fun z => absurd (show false = true from z) (by simp), I.ok.frames, I.ok.stk, I.ok.exf, I.ok.bs, I.ok.bsz, I.ok.noex, I.ok.exfs, I.ok.funs, I.ok.frf⟩, I.os, I.bare, I.base, I.loc, I.cell, I.free, I.freeC, I.pin, I.hok, I.len⟩
theorem Inv.unheld (ok : X.Ok) {e : Value} (I : Inv (heldX X e) pins σ H s) : Inv X pins σ H s := ⟨ok, I.os, I.bare, I.base, I.loc, I.cell, I.free, I.freeC, I.pin, I.hok, I.len⟩
/-- a class that except asks for -/
structure XTest (K : PySem.W.Frag) (C2 : Addr) : Prop where
  ty : PySem.W.typeIn K (.ref C2) = some (.type "type")
  sb : PySem.W.subIn K (.ref C2) (.type "BaseException") = some true
  ob : ∃ (o2 : Obj) (cd2 : ClassData), K.lookup C2 = some o2 ∧ o2.data = .cls cd2
variable {ea C C2 T : Addr} {oe : Obj} {x2 n : Str} {p pos : Pos} {nm : Option Str} {body : List Stmt} {rest : List ExceptHandler} {Q : Flow → Shared → Prop} {dd : Option Addr}
/-- another class -/
theorem hby_no (I : Inv X pins σ H s) (he : s.heap.get? ea = some oe) (hcls : oe.cls = .ref C) (hg : Gl X x2) (hm : X.mg x2 = some (.ref C2)) (c2 : XTest X.K C2) (hb : PySem.W.subIn X.K (.ref C) (.ref C2) = some false)
    (h : wpAny (model X.prog X.w) X.A (handleBy (.ref ea) X.env rest) Q E' s) (hdb : (x2 == ("__debug__" : Str)) = false := by decide) : wpAny (model X.prog X.w) X.A (handleBy (.ref ea) X.env (.ExceptHandler (some (.Name x2 p)) nm body pos :: rest)) Q E' s := by
  obtain ⟨o2, cd2, lk, hd⟩ := c2.ob
  refine wpAny_handleBy_cons (codeAny_handlers_test (ld_glob (X := heldX X (.ref ea)) (Inv.held I _) hg hm ?_ hdb)) (by intro q; cases q)
  exact xmatch I.kIn he hcls c2.ty c2.sb hb lk hd h
/-- this class: the suite, which returns -/
theorem hby_yes {i : Nat} {b0 : Stmt} {t : TS} {D : Ends} (I : Inv X pins σ H s) (fl : FlD s.heap ea (.ref C) dd T) (fe : Far X pins ea) (fT : Far X pins T) (nE : H ea = none) (nT : H T = none) (hg : Gl X x2) (hm : X.mg x2 = some (.ref C2)) (c2 : XTest X.K C2)
    (hb : PySem.W.subIn X.K (.ref C) (.ref C2) = some true) (hN : X.N.Nodup) (hi : X.N[i]? = some n) (hl : X.env.scope.names.lookup n = some .local) (hs : PSs (heldX X (.ref ea)) (b0 :: body) t)
    (q : t { nx := fun _ _ => False, rt := fun v H' => H' ea = some (ExA ea C dd) ∧ D.rt v (del H' ea) } (σ.set i (some (.ref ea))) (upd H ea (ExA ea C dd))) (hdb : (x2 == ("__debug__" : Str)) = false := by decide) :
    wpAny (model X.prog X.w) X.A (handleBy (.ref ea) X.env (.ExceptHandler (some (.Name x2 p)) (some n) (b0 :: body) pos :: rest)) (SP X pins D) E' s := by
  obtain ⟨o2, cd2, lk, hd2⟩ := c2.ob
  obtain ⟨oe, vs, oT, ts, he, ecl, edi, hd, h1, hTe, hT, hdT, h3⟩ := fl
  refine wpAny_handleBy_cons (codeAny_handlers_test (ld_glob (X := heldX X (.ref ea)) (Inv.held I _) hg hm ?_ hdb)) (by intro q; cases q)
  refine xmatch I.kIn he ecl c2.ty c2.sb hb lk hd2 ?_
  refine codeAny_handlers_suite_as (wpAny_setFlight_none he hd h1 hT hdT (Array.getElem?_eq_some_iff.mp h3).1 ?_)
  have other : ∀ b, b ≠ T → (s.heap.update T (Obj.mapFields (·.setIfInBounds 3 Value.none))).get? b = s.heap.get? b := fun b hb => Heap.get?_update_other _ _ (Ne.symm hb)
  have I1 : Inv X pins σ H { s with heap := s.heap.update T (Obj.mapFields (·.setIfInBounds 3 Value.none)), toks := s.toks } := I.turned (fun b o hb z => (other b hb).trans z) nT fT.loc (.inr fT.s0) fT.cel fT.pin
  have he1 : (s.heap.update T (Obj.mapFields (·.setIfInBounds 3 Value.none))).get? ea = some ⟨.ref C, dd, .fields vs, oe.slots⟩ := by
    rw [other ea (Ne.symm hTe), he, ← ecl, ← edi, ← hd]
  have I2 := Inv.held (Inv.track I1 nE fe (ExA.ok he1)) (.ref ea)
  refine store_ok (X := heldX X (.ref ea)) (v := .ref ea) I2 hN hi (.inl hl) rfl (fun s2 I3 => ?_) (.inr hl)
  refine wpAny_mono (hs pins s2 _ _ _ I3 q) (fun f s3 z => ?_) (fun x s3 z => z.elim)
  cases f with
  | ret u =>
    obtain ⟨v, σ', H', I4, rv, e4, q4⟩ := z
    obtain ⟨m, hn, _⟩ := I4.loc
    refine wpAny_nameGoes (m := m) hl hn (by rw [I.ok.kind]; rfl) fun h' m' hn' sb => ?_
    exact ⟨v, _, del H' ea, Inv.dropx (Inv.gone (Inv.unheld I.ok I4) hn' sb) e4, rv, q4⟩
  | next => obtain ⟨_, _, _, f⟩ := z; exact f.elim
  | brk => obtain ⟨_, _, _, f⟩ := z; exact f.elim
  | cont => obtain ⟨_, _, _, f⟩ := z; exact f.elim
end
/-- an attribute of an exception -/
def tXget (K : PySem.W.Frag) (to : TE) (f : Str) : TE := fun σ H Q => to σ H fun x H1 => ∃ (ea C da : Addr) (fs : List (Str × V)) (v : V), x = .ref ea ∧ H1 ea = some (ExA ea C (some da)) ∧ H1 da = some (.xd fs) ∧ XCls K C ∧ PySem.W.findIn K (.ref C) f = some none ∧ fs.lookup f = some v ∧ Q v H1
theorem handed_rel {v : V} {u : Value} (r : RelV v u) : PySem.W.handedIn u = true := by
  cases v
  case non => cases r; rfl
  case bl b => cases r; rfl
  case int i => obtain ⟨t, rfl⟩ := r; rfl
  case str i => obtain ⟨t, rfl⟩ := r; rfl
  case byt i => obtain ⟨t, rfl⟩ := r; rfl
  case flt i => obtain ⟨t, rfl⟩ := r; rfl
  case ref i => cases r; rfl
  case ty i => cases r; rfl
section
variable {X : Cx} {o : Expr} {to : TE} {f : Str} {pos : Pos}
theorem pe_xget (ho : PE X o to) (hb : attributeBase o f X.env (eval o X.env) = eval o X.env := by rfl) : PE X (.Attribute o f pos) (tXget X.K to f) := by
  intro pins s σ H Q I h
  refine attr_of hb (thn (ho pins s σ H _ I h) fun u s1 ⟨x, H1, I1, rx, ea, C, da, fs, v, ex, he, hda, xc, ff, hl, q⟩ => ?_)
  subst ex
  obtain rfl : u = Value.ref ea := rx
  obtain ⟨vs, sl, hge⟩ := (I1.hok ea _ he).1
  obtain ⟨mA, hns, hrel⟩ := I1.hok da _ hda
  obtain ⟨od, hod, hlook⟩ := lookIn_ns hns
  have hf := hrel f
  rw [hl] at hf
  obtain ⟨cd, hcd, _, _, _, hdict⟩ := xc.cd
  cases hm : mA f with
  | none => rw [hm] at hf; exact hf.elim
  | some u =>
    rw [hm] at hf
    refine xget I1.kIn (ox := ⟨.ref C, some da, .fields vs, sl⟩) (od := some od) ⟨hge, rfl, rfl, hod⟩ xc.ga xc.gk xc.subB (PySem.W.findObj_own (attr := none) (by unfold PySem.W.hasDictIn; rw [hcd]; exact hdict) ff rfl (by rw [hlook, hm])) (handed_rel hf) ⟨v, H1, I1.tok _, hf, q⟩
end
end L2.Lw

set_option Elab.async false
set_option linter.all false
set_option maxRecDepth 100000
namespace L2.Lw
open PySem PySem.Spec PyProof.Rows
/-! ### a function that was made in a body: what its call does, from here on -/
/-- f, as it stands at s0, H0: called with nothing at any later state it does as sp says -/
structure Act (P : Program) (w : World) (K : PySem.W.Frag) (mg : Str → Option Value) (base : Heap) (k : Nat) (fs0 : List Addr) (s0 : Shared) (H0 : Hp) (f : Addr) (sp : Hp → VK → XK → Prop) : Prop where
  fn : ∀ (s : Shared) (H : Hp), (∀ b o, s0.heap.get? b = some o → H0 b = none → b ∉ fs0 → s.heap.get? b = some o ∧ H b = none) → Same H0 H → HOk P w H s.heap → PySem.W.FnAt f s.heap
  run : ∀ (A : Around) (outer : List Env) (s : Shared) (H : Hp) (Q : VK) (E : XK), Room k A → Env0 P w K mg base A outer s H → (∀ b o, s0.heap.get? b = some o → H0 b = none → b ∉ fs0 → s.heap.get? b = some o ∧ H b = none) → Same H0 H → sp H Q E →
    codeAny (model P w) A (.call (.ref f) ⟨[], []⟩) (CR (XC P w) outer P w H s Q E) s
section
variable {X : Cx} {pins : List (Addr × Obj)} {σ : St} {H : Hp} {s : Shared}
/-- what stood untracked at the entry stands there still -/
theorem Inv.old (I : Inv X pins σ H s) (hex : X.ex = []) : ∀ b o, X.s_0.heap.get? b = some o → X.H_0 b = none → b ∉ X.fs → s.heap.get? b = some o ∧ H b = none := fun b o e n nf => by
  have nx : b ∉ X.ex := by rw [hex]; simp
  exact ⟨I.base.keep b o e n nf nx, I.base.free b o e n nx⟩
variable {i k : Nat} {x : Str} {p pos : Pos} {f : Addr} {sp : Hp → VK → XK → Prop} {E : XK}
/-- x(), x a name that holds such a function -/
def tAct (i : Nat) (f : Addr) (H0 : Hp) (sp : Hp → VK → XK → Prop) (E : XK) : TE := fun σ H Q => σ[i]? = some (some (.ref f)) ∧ Same H0 H ∧ sp H Q E
theorem pe_act (hN : X.N[i]? = some x) (hv : Vis X.env.scope x) (hr : Room k X.A) (hex : X.ex = []) (ac : Act X.prog X.w X.K X.mg X.base k X.fs X.s_0 X.H_0 f sp) (hx : Passes (XC X.prog X.w) X E)
    (hd : (x == ("__debug__" : Str)) = false := by decide) (hcd : (x == ("__classdict__" : Str)) = false := by decide) : PE X (.Call (.Name x p) [] [] pos) (tAct i f X.H_0 sp E) := by
  intro pins s σ H Q I h
  obtain ⟨h1, h2, h3⟩ := h
  refine wpAny_Call_Name_kw (thn (pe_var hN hv hd hcd pins s σ H (fun v H' => v = .ref f ∧ Same X.H_0 H' ∧ sp H' Q E) I ⟨_, h1, rfl, h2, h3⟩) fun u s1 ⟨v, H1, I1, rv, ev, sm, q⟩ => ?_)
  subst ev
  obtain rfl : u = Value.ref f := rv
  have old := Inv.old I1 hex
  have fa : PySem.W.FnAt f s1.heap := ac.fn s1 H1 old sm I1.hok
  refine PySem.W.callWith_F0 (first := []) fa ?_
  refine wpAny_call (codeAny_mono (ac.run X.A X.stack s1 H1 Q E hr I1.env0 old sm q) fun r s' hq => ?_)
  cases r with
  | error e => exact hx pins σ H1 s1 e s' I1 hq
  | ok fl =>
    cases fl with
    | ret u => exact I1.after hq
    | next => exact False.elim hq
    | brk => exact False.elim hq
    | cont => exact False.elim hq
end
/-! ### the law's try: told, or the word of what was raised -/
/-- the classes that it knows -/
structure TrCls (K : PySem.W.Frag) (mg : Str → Option Value) (B1 B2 B3 : Addr) : Prop where
  m1 : mg "BadTable" = some (.ref B1)
  m2 : mg "BadSheet" = some (.ref B2)
  m3 : mg "LagError" = some (.ref B3)
  x1 : XTest K B1
  x2 : XTest K B2
  x3 : XTest K B3
/-- an error below LagError that is neither BadTable nor BadSheet -/
structure Plain (K : PySem.W.Frag) (B1 B2 B3 C : Addr) : Prop where
  cls : XCls K C
  wd : PySem.W.findIn K (.ref C) "word" = some none
  s1 : PySem.W.subIn K (.ref C) (.ref B1) = some false
  s2 : PySem.W.subIn K (.ref C) (.ref B2) = some false
  s3 : PySem.W.subIn K (.ref C) (.ref B3) = some true
/-- what the act may raise so that the try tells its word -/
def EWord (K : PySem.W.Frag) (B1 B2 B3 : Addr) (Q : VK) : XK := fun cls dd H' => ∃ (C da : Addr) (wd : Str) (more : List (Str × V)), cls = .ref C ∧ dd = some da ∧ H' da = some (.xd (("word", .str wd) :: more)) ∧ Plain K B1 B2 B3 C ∧ ∀ p, H' p = none → Q (.ref p) (upd H' p (.tup [.str wd]))
def QTold (Q : VK) : VK := fun v H' => ([V.str "told", v]).length ≤ sizeLine ∧ ∀ p, H' p = none → Q (.ref p) (upd H' p (.tup [.str "told", v]))
def TriedBody (b : List Stmt) : Prop := ∃ (j k4 k8 : Nat) (p1 p2 p3 p4 p5 p6 a1 a2 a3 a4 a5 a6 a7 a9 a10 a11 : Pos) (n1 n3 : Option Str) (b1 b3 : List Stmt) (rest : List ExceptHandler),
  b = [.Try [.Return (some (.Tuple [.Constant (.str "told") j p1, .Call (.Name "_law_act" p2) [] [] p3] k4 p4)) p5]
    (.ExceptHandler (some (.Name "BadTable" a1)) n1 b1 a2 :: .ExceptHandler (some (.Name "BadSheet" a3)) n3 b3 a4 :: .ExceptHandler (some (.Name "LagError" a5)) (some "e") [.Return (some (.Tuple [.Attribute (.Name "e" a6) "word" a7] k8 a9)) a10] a11 :: rest) [] [] p6]
structure TrScope (sc : Scope) : Prop where
  fn : FnScope ["_law_act", "e"] ["_law_act"] sc
  act : sc.names.lookup ("_law_act" : Str) = some .local
  e : sc.names.lookup ("e" : Str) = some .local
  g1 : sc.names.lookup ("BadTable" : Str) = some .globalImplicit
  g2 : sc.names.lookup ("BadSheet" : Str) = some .globalImplicit
  g3 : sc.names.lookup ("LagError" : Str) = some .globalImplicit
theorem del_upd2 {H : Hp} {a p : Addr} {x t : HO} (ha : H a = none) (hp : p ≠ a) : del (upd (upd H a x) p t) a = upd H p t := by
  funext b
  by_cases hb : b = a
  · subst hb; rw [del_self, upd_ne (Ne.symm hp), ha]
  · rw [del_ne hb]
    by_cases hq : b = p
    · subst hq; rw [upd_same, upd_same]
    · rw [upd_ne hq, upd_ne hb, upd_ne hq]
section
variable {P : Program} {w : World} {K : PySem.W.Frag} {mg : Str → Option Value} {base : Heap} {CX : CXT} {B1 B2 B3 : Addr}
theorem tried_call {k : Nat} {st : Stmt} {f fa : Addr} {fd : FuncData} {A : Around} {outer : List Env} {s : Shared} {H : Hp} {args : Args} {Q : VK} {E : XK} {sp : Hp → VK → XK → Prop} (F : Fun K "_law_tried" "_law_tried" st f fd) (S : TrScope (defScope st)) (hb : TriedBody (defBody st)) (T : TrCls K mg B1 B2 B3)
    (hr : Room (k + 1) A) (e0 : Env0 P w K mg base A outer s H) (hbn : BindsTo s fd args (([("_law_act" : Str)]).zip [Value.ref fa])) (ac : Act P w K mg base k (frs outer) s H fa sp) (q : sp H (QTold Q) (EWord K B1 B2 B3 Q)) :
    codeAny (model P w) A (.call (.ref f) args) (CR CX outer P w H s Q E) s := by
  obtain ⟨oc, od, kV, doc, pm, an, cdv, ct, osl, rfl, lk, hcd⟩ := F.ex
  have KX : K.In s.heap := e0.mod.kin.keeps fun b o e => (e0.bs b o e).1
  have lim : s.heap.NoLimit := e0.mod.nolimit.keeps fun b o e => (e0.bs b o e).1
  refine codeAny_call_function hr.depth (KX _ _ lk) rfl S.fn.co S.fn.gen rfl (PySem.W.codeRec_of KX hcd) (hbn _ _ _ _ ?_)
  refine wpAny_newFunctionEnv_cells S.fn.kind (fun y hy => ?_) fun env he s1 x => ?_
  · have e : y = (("_law_act" : Str), Value.ref fa) := List.mem_singleton.mp hy
    subst e; exact .inl S.act
  subst he
  refine ⟨lim.keeps x.toInCall.keep, codeAny_func ?_⟩
  have I : Inv (cxOf CX P w K mg base ["_law_act", "e"] "_law_tried" (defScope st) f cdv A outer s H E) [] (start ["_law_act", "e"] [.ref fa]) H s1 := inv_start S.fn hr.hd e0 rfl (.cons rfl .nil) x
  generalize hX : cxOf CX P w K mg base ["_law_act", "e"] "_law_tried" (defScope st) f cdv A outer s H E = X at I
  have fin : ∀ {fl : Flow} {s' : Shared}, SP X [] { nx := fun _ _ => False, rt := Q } fl s' → CR CX outer P w H s Q E (.ok (.ret (match fl with | .ret v => v | _ => .none))) s' := fun {fl s'} h => by
    subst hX
    cases fl with
    | ret u =>
      obtain ⟨v, σ', H', J, rv, q⟩ := h
      exact ⟨v, H', J.os, J.bare, J.base, J.hok, rv, q⟩
    | next => obtain ⟨_, _, _, f⟩ := h; exact f.elim
    | brk => obtain ⟨_, _, _, f⟩ := h; exact f.elim
    | cont => obtain ⟨_, _, _, f⟩ := h; exact f.elim
  have hA : X.A = A.deeper (envOfC "_law_tried" (defScope st) s.heap.objs.size f cdv) := by rw [← hX]; rfl
  have hE : X.env = envOfC "_law_tried" (defScope st) s.heap.objs.size f cdv := by rw [← hX]; rfl
  have hP : X.prog = P := by rw [← hX]; rfl
  have hw : X.w = w := by rw [← hX]; rfl
  have main : wpAny (model X.prog X.w) X.A (execs (defBody st) X.env) (SP X [] { nx := fun _ _ => False, rt := Q }) X.xe s1 := by
    obtain ⟨j, k4, k8, p1, p2, p3, p4, p5, p6, a1, a2, a3, a4, a5, a6, a7, a9, a10, a11, n1, n3, b1, b3, rest, ebody⟩ := hb
    rw [ebody]
    refine wpAny_execs_cons ?_
    have one : ∀ {fl : Flow} {s' : Shared}, SP X [] { nx := fun _ _ => False, rt := Q } fl s' → (match fl with | .next => wpAny (model X.prog X.w) X.A (execs [] X.env) (SP X [] { nx := fun _ _ => False, rt := Q }) X.xe s' | f => SP X [] { nx := fun _ _ => False, rt := Q } f s') := fun {fl s'} h => by
      cases fl with
      | next => exact wpAny_execs_nil h
      | ret u => exact h
      | brk => exact h
      | cont => exact h
    refine wpAny_Try_except ?_
    let xe : Value → Shared → Prop := fun e s₁ => wpAny (model X.prog X.w) X.A (noteFrame e X.env) (fun _ s₂ => wpAny (model X.prog X.w) X.A (setFlight e none) (fun _ s₃ => wpAny (model X.prog X.w) X.A (handleBy e X.env (.ExceptHandler (some (.Name "BadTable" a1)) n1 b1 a2 :: .ExceptHandler (some (.Name "BadSheet" a3)) n3 b3 a4 :: .ExceptHandler (some (.Name "LagError" a5)) (some "e") [.Return (some (.Tuple [.Attribute (.Name "e" a6) "word" a7] k8 a9)) a10] a11 :: rest))
      (SP X [] { nx := fun _ _ => False, rt := Q }) X.xe s₃) X.xe s₂) X.xe s₁
    have hs0 : X.s_0 = s := by rw [← hX]; rfl
    have hH0 : X.H_0 = H := by rw [← hX]; rfl
    have hK : X.K = K := by rw [← hX]; rfl
    have hmg : X.mg = mg := by rw [← hX]; rfl
    have hbase : X.base = base := by rw [← hX]; rfl
    have hNn : X.N = (["_law_act", "e"] : List Str) := by rw [← hX]; rfl
    have hsc : X.env.scope = defScope st := by rw [hE]; rfl
    have hout : X.outer = outer := by rw [← hX]; rfl
    have hex : X.ex = [] := by rw [← hX]; rfl
    have hst : X.stack = X.env :: X.outer := by rw [← hX]; rfl
    have hfr : X.env.frame = some X.env.locals := by rw [hE]; rfl
    have ps : Passes (XC (X.wish xe).prog (X.wish xe).w) (X.wish xe) (EWord K B1 B2 B3 Q) := by
      intro pins σ H1 s2 e s' I2 h
      have I3 : Inv X [] σ H1 s2 := I2.unwish.pins_of (by simp)
      refine land2 hst hfr I3 h fun s3 H' ea Tt cls dd ee J fl fe fT nE nT hq => ?_
      obtain ⟨C, da, wd, more, rfl, rfl, hda, pl, hq⟩ := hq
      subst ee
      obtain ⟨oe, vs, oT, ts, he, ecl, _⟩ := id fl
      have g1 : Gl X "BadTable" := by show X.env.scope.names.lookup _ = _; rw [hsc]; exact S.g1
      have g2 : Gl X "BadSheet" := by show X.env.scope.names.lookup _ = _; rw [hsc]; exact S.g2
      have g3 : Gl X "LagError" := by show X.env.scope.names.lookup _ = _; rw [hsc]; exact S.g3
      refine hby_no J he ecl g1 (by rw [hmg]; exact T.m1) (by rw [hK]; exact T.x1) (by rw [hK]; exact pl.s1) ?_
      refine hby_no J he ecl g2 (by rw [hmg]; exact T.m2) (by rw [hK]; exact T.x2) (by rw [hK]; exact pl.s2) ?_
      refine hby_yes (i := 1) J fl fe fT nE nT g3 (by rw [hmg]; exact T.m3) (by rw [hK]; exact T.x3) (by rw [hK]; exact pl.s3) (by rw [hNn]; decide) (by rw [hNn]; rfl) (by rw [hsc]; exact S.e)
        (pss_one (ps_ret (pe_tup (pa_cons (pe_xget (pe_var (i := 1) (by show X.N[1]? = _; rw [hNn]; rfl) (.inl (by show X.env.scope.names.lookup _ = _; rw [hsc]; exact S.e))) rfl) pa_nil)))) ?_
      have hlen : σ.length = 2 := by have := J.len; rw [hNn] at this; exact this
      have hdae : da ≠ ea := ne_of_none hda nE
      refine ⟨.ref ea, by rw [List.getElem?_set_self (by omega)], ea, C, da, _, .str wd, rfl, upd_same, by rw [upd_ne hdae]; exact hda, by show XCls X.K C; rw [hK]; exact pl.cls, by show PySem.W.findIn X.K _ _ = _; rw [hK]; exact pl.wd, rfl, ?_⟩
      refine ⟨by show 1 ≤ sizeLine; decide, fun p hp => ?_⟩
      have hpe : p ≠ ea := fun z => by subst z; rw [upd_same] at hp; cases hp
      refine ⟨by rw [upd_ne (Ne.symm hpe), upd_same], ?_⟩
      show Q (.ref p) (del (upd (upd H' ea (ExA ea C (some da))) p (.tup [.str wd])) ea)
      rw [del_upd2 nE hpe]
      exact hq p (by rw [upd_ne hpe] at hp; exact hp)
    have rm : Room k (X.wish xe).A := by show Room k X.A; rw [hA]; exact hr.deeper _
    have ac' : Act (X.wish xe).prog (X.wish xe).w (X.wish xe).K (X.wish xe).mg (X.wish xe).base k (X.wish xe).fs (X.wish xe).s_0 (X.wish xe).H_0 fa sp := by
      show Act X.prog X.w X.K X.mg X.base k (frs X.outer) X.s_0 X.H_0 fa sp
      rw [hP, hw, hK, hmg, hbase, hs0, hH0, hout]; exact ac
    have b := pss_one (ps_ret (pos := p5) (pe_tup (x1 := k4) (pos := p4) (pa_cons (pe_str (X := X.wish xe) (x := "told") (j := j) (pos := p1)) (pa_cons (pe_act (X := X.wish xe) (i := 0) (x := "_law_act") (p := p2) (pos := p3) (by show X.N[0]? = _; rw [hNn]; rfl) (.inl (by show X.env.scope.names.lookup _ = _; rw [hsc]; exact S.act)) rm hex ac' ps) pa_nil))))
    refine wpAny_mono (b [] s1 _ H { nx := fun _ _ => False, rt := Q } (I.wish xe) ?_) (fun fl s' h => ?_) (fun e s' h => wpAny_mono h (fun _ s2 h2 => wpAny_mono h2 (fun _ s3 h3 => wpAny_mono h3 (fun fl s4 h4 => one h4) fun _ _ y => y) fun _ _ y => y) fun _ _ y => y)
    · refine ⟨rfl, by show Same X.H_0 H; rw [hH0]; exact Same.refl H, ?_⟩
      exact q
    · have h' := h.unwish
      cases fl with
      | next => obtain ⟨_, _, _, f⟩ := h'; exact f.elim
      | ret u => exact one h'
      | brk => exact one h'
      | cont => exact one h'
  rw [hP, hw, hA, hE] at main
  refine wpAny_mono main (fun fl s' h => ?_) fun e s' h => by rw [← hX] at h; exact h
  exact fin h
end
end L2.Lw

set_option Elab.async false
set_option linter.all false
set_option maxRecDepth 100000
namespace L2.Lw
open PySem PySem.Spec PyProof.Rows
/-! ### _law_tried(lambda: ..) -/
/-- what the table's change leaves -/
def Grow (T : Addr) (q : Str) (H H1 : Hp) : Prop := TabI H1 T q ∧ ∀ b o, H b = some o → b ≠ T → H1 b = some o
section
variable {X : Cx} {pins : List (Addr × Obj)} {σ : St} {H : Hp} {s : Shared}
theorem Inv.cstk (I : Inv X pins σ H s) (hfn : ∀ x, X.fn x = true) {y : Str} {c : Addr} (e : X.env.cells.lookup y = some c) : c ∉ frs X.stack := fun hb => by
  rcases List.mem_cons.mp (I.stkSub c hb) with z | z
  · exact I.cne y c e z
  · obtain ⟨_, o, ho, _⟩ := I.ok.funs.mem z
    exact absurd (Heap.lt_size ho) (Nat.not_lt_of_le (I.ok.cab y c (hfn y) e))
variable {k : Nat} {st : Stmt} {f c T B1 B2 B3 : Addr} {fd : FuncData} {args : Arguments} {body : Expr} {scope : Scope} {p lpos pos : Pos} {tb : XK → TE}
end
end L2.Lw

set_option Elab.async false
set_option linter.all false
set_option maxRecDepth 100000
namespace L2.Lw
open PySem PySem.Spec PyProof.Rows
/-! ### the facts of an own error class, by the module's heap -/
def strKeysB (es : Array DictEntry) : Bool := es.toList.all fun e => match e.key with | .str _ _ => true | _ => false
def nsAll (K : PySem.W.Frag) (N : Addr) : Bool := match K.lookup N with | some ⟨_, _, .dict es _, _⟩ => strKeysB es | _ => false
theorem nsAll_ns {K : PySem.W.Frag} {N : Addr} (h : nsAll K N = true) : ∃ mN : Str → Option Value, (∀ g : Heap, K.In g → g.Ns N mN) ∧ ∀ x v, PySem.W.nsIn K N x = some (some v) → mN x = some v := by
  unfold nsAll at h
  split at h
  · rename_i a b es n c lk
    refine ⟨fun y => nsFind es y, fun g X => ⟨_, es, n, X _ _ lk, rfl, ?_, fun _ => rfl⟩, fun x v e => ?_⟩
    · intro e he
      have q := List.all_eq_true.mp h e (Array.mem_toList_iff.mpr he)
      split at q
      · rename_i x t ek; exact ⟨x, t, ek⟩
      · cases q
    · unfold PySem.W.nsIn at e
      rw [lk] at e
      dsimp only at e
      show nsFind es x = some v
      unfold nsFind findBy
      rw [← Array.find?_toList]
      split at e
      · rename_i y hy; rw [hy]; exact Option.some.inj e
      · split at e <;> cases e
  · cases h
theorem tail_off {bmB : List Value} : ∀ {bm : List Value}, offOwn bm = bmB → TailT bmB bm
  | [], e => by subst e; exact fun X => rfl
  | .ref a :: r, e => fun X => by
    rw [List.contains_cons, tail_off (bm := r) e X]; rfl
  | .none :: r, e => by subst e; exact fun X => rfl
  | .bool _ :: r, e => by subst e; exact fun X => rfl
  | .int _ _ :: r, e => by subst e; exact fun X => rfl
  | .float _ _ :: r, e => by subst e; exact fun X => rfl
  | .str _ _ :: r, e => by subst e; exact fun X => rfl
  | .bytes _ _ :: r, e => by subst e; exact fun X => rfl
  | .builtin _ :: r, e => by subst e; exact fun X => rfl
  | .type _ :: r, e => by subst e; exact fun X => rfl
  | .notImplemented :: r, e => by subst e; exact fun X => rfl
  | .ellipsis :: r, e => by subst e; exact fun X => rfl
/-- an own error class, as the module's heap shows it -/
structure EC (K : PySem.W.Frag) (C : Addr) : Prop where
  cls : XCls K C
  wd : PySem.W.findIn K (.ref C) "word" = some none
  tst : XTest K C
abbrev excBm : List Value := [.type "ValueError", .type "Exception", .type "BaseException", .type "object"]
theorem ec_of {K : PySem.W.Frag} {C N : Addr} {nm q : Str} {bs bm : List Value} {hdct : Bool} {sn : List Str} {sub : List Value} {ab : Bool} {col : Option Bool} {dd : Option Addr} {k0 k1 k2 k3 k5 : Option Value} {newId : String}
    (lk : K.lookup C = some (excClassObj nm q C N bs bm hdct sn sub ab col dd k0 k1 k2 k3 k5 newId)) (hb : offOwn bm = excBm) (hob : bm.contains (.type "object") = true) (hd : hdct = true) (sB : PySem.W.subIn K (.ref C) (.type "BaseException") = some true) (sa : PySem.W.findIn K (.ref C) "__setattr__" = some (some (.builtin "object.__setattr__")))
    (ga : PySem.W.findIn K (.ref C) "__getattribute__" = some (some (.builtin "BaseException.__getattribute__"))) (gk : PySem.W.findIn K (.ref C) "__getattr__" = some none) (wd : PySem.W.findIn K (.ref C) "word" = some none) (ty : PySem.W.typeIn K (.ref C) = some (.type "type")) : EC K C := by
  refine ⟨⟨⟨nm, q, N, bs, bm, hdct, sn, sub, ab, col, dd, k0, k1, k2, k3, k5, newId, lk, tail_off hb⟩, sB, ⟨_, by unfold PySem.W.clsIn; rw [lk], hb, rfl, ?_, hd⟩, sa, ga, gk⟩, wd, ⟨ty, sB, _, _, lk, rfl⟩⟩
  show (Value.ref C :: bm).contains (.type "object") = true
  rw [List.contains_cons, hob, Bool.or_true]
theorem xmk_of {K : PySem.W.Frag} {C N f : Addr} {nm q : Str} {bs bm : List Value} {hdct : Bool} {sn : List Str} {sub : List Value} {ab : Bool} {col : Option Bool} {dd : Option Addr} {k0 k1 k2 k3 k5 : Option Value} {newId inN Bn : String} {bmN : List Value} {oI : Obj}
    (e : EC K C) (lk : K.lookup C = some (excClassObj nm q C N bs bm hdct sn sub ab col dd k0 k1 k2 k3 k5 newId)) (hb : offOwn bm = excBm) (Fn : ExcBaseFacts Bn newId inN bmN) (hBn : excBm.contains (.type Bn) = true) (hN : nsAll K N = true) (hi : PySem.W.nsIn K N "__init__" = some (some (.ref f)))
    (kp : PySem.W.keepIn K (.ref C) = true) (lf : K.lookup f = some oI) (fc : oI.cls = .type "function") : XMk K C f := by
  obtain ⟨mN, h1, h2⟩ := nsAll_ns hN
  refine ⟨e.cls, ⟨nm, q, N, bs, bm, hdct, sn, sub, ab, col, dd, k0, k1, k2, k3, k5, newId, inN, bmN, Bn, mN, lk, Fn, hBn, tail_off hb, h1, h2 _ _ hi, ?_⟩, kp, ⟨oI, lf, fc⟩⟩
  rw [tail_off hb "BaseException"]; decide
end L2.Lw

set_option Elab.async false
set_option linter.all false
set_option maxRecDepth 100000
namespace L2.Lw
open PySem PySem.Spec PyProof.Rows
section
variable {P : Program} {w : World} {K : PySem.W.Frag} {mg : Str → Option Value} {base : Heap} {k : Nat} {f : Addr} {fd : FuncData} {ps : List Str} {sp : Sp}
theorem FnOk.any {CX : CXT} (F : FnOk P w K mg base CX0 k f fd ps sp) : FnOk P w K mg base CX k f fd ps sp :=
  ⟨F.len, fun A outer s H args us vs Q E hr he hb hv hs => codeAny_mono (F.run A outer s H args us vs Q E hr he hb hv hs) fun r s' h => by
    cases r with
    | error e => exact h.elim
    | ok fl => cases fl <;> exact h⟩
/-- no exception is wished: none comes -/
theorem passN {X : Cx} : Passes (XC X.prog X.w) X E0 := fun _ _ _ _ _ _ _ h => by
  obtain ⟨_, _, _, _, _, _, _, _, _, _, _, _, _, _, _, z⟩ := h; exact z.elim
structure CalX (P : Program) (w : World) (K : PySem.W.Frag) (mg : Str → Option Value) (base : Heap) (x : Str) (k : Nat) (ps : List Str) (sp : Sp) (B : FuncData → Prop) : Prop where
  ex : ∃ (f : Addr) (fd : FuncData), FnOk P w K mg base (XC P w) k f fd ps sp ∧ mg x = some (.ref f) ∧ PySem.W.keepIn K (.ref f) = true ∧ B fd
/-- a def with defaults -/
structure FunD (K : PySem.W.Frag) (x qual : Str) (st : Stmt) (dV : Value) (f : Addr) (fd : FuncData) : Prop where
  ex : ∃ (oc : Value) (od : Option Addr) (kV doc pm : Value) (an : Option Addr) (cdv ct : Value) (osl : Array (Option Value)),
    fd = PySem.W.fnOf x qual (defArgs st) (defBody st) (defScope st) dV kV doc pm an cdv ct ∧ K.lookup f = some ⟨oc, od, .func fd, osl⟩ ∧ PySem.W.codeIn K cdv qual = true
theorem FunD.okX {CX : CXT} {x qual : Str} {st : Stmt} {dV : Value} {N : List Str} (F : FunD K x qual st dV f fd) (S : FnScope N ps (defScope st)) (len : ∀ vs H Q E, sp vs H Q E → vs.length = ps.length)
    (hbody : ∀ (cdv : Value) (A : Around) (outer : List Env) (s : Shared) (H : Hp) (vs : List V) (Q : VK) (E : XK), Room k (A.deeper (envOfC qual (defScope st) s.heap.objs.size f cdv)) → sp vs H Q E →
      ∃ t, PSs (cxOf CX P w K mg base N qual (defScope st) f cdv A outer s H E) (defBody st) t ∧ t { nx := fun _ H' => Q .non H', rt := Q } (start N vs) H) : FnOk P w K mg base CX (k + 1) f fd ps sp := by
  obtain ⟨oc, od, kV, doc, pm, an, cdv, ct, osl, rfl, lk, hcd⟩ := F.ex
  exact fn_of lk hcd S len fun A outer s H vs Q E hr hsp => hbody cdv A outer s H vs Q E hr hsp
end
section
variable {X : Cx} {x : Str} {k : Nat} {ps : List Str} {sp : Sp} {p pos : Pos} {e : Expr} {es : List Expr} {t tk : TA} {E : XK}
theorem pcallX (c : CalX X.prog X.w X.K X.mg X.base x k ps sp (Pla X.K ps)) (hr : Room k X.A) (hx : Passes (XC X.prog X.w) X E) (ha : PA X (e :: es) t) (hg : Gl X x := by rfl) (hdb : (x == ("__debug__" : Str)) = false := by decide)
    (he : starEach (e :: es) X.env = (false, eval e X.env) :: starEach es X.env := by rfl) (hpl : (backTo pos (starEach es X.env)).any (·.1) = false := by rfl) : PE X (.Call (.Name x p) (e :: es) [] pos) (tCall sp [] E t) := by
  obtain ⟨f, fd, F, m, kp, b⟩ := c.ex
  exact pe_call F hr hg m kp b .nil hx ha hdb he hpl
end
/-! ### the own errors are made -/
def spLagI (K : PySem.W.Frag) : Sp := fun vs H Q _ => ∃ (e C : Addr) (m : V) (wd : Str), vs = [.ref e, m, .str wd] ∧ H e = some (ExO e C none) ∧ XCls K C ∧ PySem.W.findIn K (.ref C) "word" = some none ∧ ∀ da, H da = none → da ≠ e → Q .non (upd (upd H e (ExO e C (some da))) da (.xd [("word", .str wd)]))
def spBadI (K : PySem.W.Frag) (wd : Str) : Sp := fun vs H Q _ => ∃ (e C : Addr) (m : V), vs = [.ref e, m] ∧ H e = some (ExO e C none) ∧ XCls K C ∧ PySem.W.findIn K (.ref C) "word" = some none ∧ ∀ da, H da = none → da ≠ e → Q .non (upd (upd H e (ExO e C (some da))) da (.xd [("word", .str wd)]))
/-- an error class that is raised with one message: its making -/
structure Rais (P : Program) (w : World) (K : PySem.W.Frag) (mg : Str → Option Value) (base : Heap) (x : Str) (C : Addr) : Prop where
  ex : ∃ (f : Addr) (fd : FuncData), XMk K C f ∧ EC K C ∧ FnOk P w K mg base (XC P w) 2 f fd ["self", "message"] (spBadI K x) ∧ Binds K fd [("self" : Str), "message"] [] ∧ mg x = some (.ref C)
/-- what lies behind raise x(..) -/
def tRais (x : Str) (C : Addr) (E : XK) : TS := fun _ _ H => ∀ da H', Same H H' → H' da = some (.xd [("word", .str x)]) → E (.ref C) (some da) H'
section
variable {P : Program} {w : World} {K : PySem.W.Frag} {mg : Str → Option Value} {base : Heap} {N : List Str} {qual : Str} {scope : Scope} {f0 : Addr} {cd : Value} {A : Around} {outer : List Env} {s0 : Shared} {H0 : Hp} {E : XK} {C : Addr} {x m : Str} {np mp cpos pos : Pos} {j : Nat}
theorem ps_rais (r : Rais P w K mg base x C) (hr : Room 3 (cxOf (XC P w) P w K mg base N qual scope f0 cd A outer s0 H0 E).A) (hg : Gl (cxOf (XC P w) P w K mg base N qual scope f0 cd A outer s0 H0 E) x) (hdb : (x == ("__debug__" : Str)) = false := by decide) :
    PS (cxOf (XC P w) P w K mg base N qual scope f0 cd A outer s0 H0 E) (.Raise (some (.Call (.Name x np) [.Constant (.str m) j mp] [] cpos)) none pos) (tRais x C E) := by
  obtain ⟨f, fd, xm, ec, F, b, hm⟩ := r.ex
  have t := ps_raise (np := np) (cpos := cpos) (pos := pos) xm F hr hg hm b (pa_cons (pe_str (x := m) (j := j) (pos := mp)) pa_nil) hdb rfl rfl
  intro pins s σ H D I h
  refine t pins s σ H D I ⟨by show 1 ≤ 100; decide, fun e he => ⟨e, C, _, rfl, upd_same, ec.cls, ec.wd, fun da hda hde => ⟨rfl, some da, by rw [upd_ne (Ne.symm hde), upd_same], ?_⟩⟩⟩
  have hda' : H da = none := by rw [upd_ne hde] at hda; exact hda
  refine h da _ (fun b o q => ?_) ?_
  · rw [del_ne (ne_of_none q he), upd_ne (ne_of_none q hda'), upd_ne (ne_of_none q he), upd_ne (ne_of_none q he)]; exact q
  · rw [del_ne hde, upd_same]
end
end L2.Lw

set_option Elab.async false
set_option linter.all false
set_option maxRecDepth 100000
namespace L2.Lw
open PySem PySem.Spec PyProof.Rows
/-! ### lambdas that are kept -/
def LamO (f : Addr) (q : Str) (args : Arguments) (body : Expr) (scope : Scope) (cl : List (Str × Addr)) (c' : Addr) : HO := .ext fun h => ∃ pm ctv, h.get? f = some (PySem.W.kla_obj "<lambda>" q args body scope cl pm c' ctv)
theorem LamO.ok {P : Program} {w : World} {H : Hp} {h : Heap} {f c' : Addr} {q : Str} {args : Arguments} {body : Expr} {scope : Scope} {cl : List (Str × Addr)} {pm ctv : Value} (e : h.get? f = some (PySem.W.kla_obj "<lambda>" q args body scope cl pm c' ctv)) : ObjOk P w H h f (LamO f q args body scope cl c') :=
  ⟨⟨pm, ctv, e⟩, ⟨_, e⟩, fun h1 h2 ⟨a, b, z⟩ k => ⟨a, b, k _ z⟩⟩
/-- what a lambda's text is good for: its reading -/
structure LamGood (X : Cx) (k : Nat) (args : Arguments) (body : Expr) (scope : Scope) (tb : XK → TE) : Prop where
  fr : LamFrom X.env.scope scope
  sc : LamScope scope
  bi : ∀ (cl : List (Str × Addr)) (pm cd ct : Value), bindArgs (PySem.W.kla_fn "<lambda>" (X.env.qual ++ "<lambda>") args body scope cl pm cd ct) ⟨[], []⟩ = pure []
  bd : ∀ (f : Addr) (cd : Value) (cl : List (Str × Addr)) (A : Around) (outer : List Env) (s : Shared) (H : Hp) (E : XK), Room k (A.deeper (PySem.W.envX (X.env.qual ++ "<lambda>") scope s.heap.objs.size f cd cl)) →
      PE (cxL (XC X.prog X.w) X.prog X.w X.K X.mg X.base X.N (X.env.qual ++ "<lambda>") scope f cd cl A outer s H E) body (tb E)
def LamAt (X : Cx) (k : Nat) (H : Hp) (f : Addr) (tb : XK → TE) : Prop := ∃ (args : Arguments) (body : Expr) (scope : Scope) (c' : Addr) (oc : Obj) (vs : Array Value) (t : Tok), H f = some (LamO f (X.env.qual ++ "<lambda>") args body scope (cloFrom X.env.cells scope.names []) c') ∧ H c' = some (CdO c' oc) ∧ oc.data = .fields vs ∧ vs[1]? = some (.str (X.env.qual ++ "<lambda>") t) ∧ LamGood X k args body scope tb
theorem LamAt.of {X : Cx} {k : Nat} {H H' : Hp} {f : Addr} {tb : XK → TE} (x : LamAt X k H f tb) (kp : ∀ b o, H b = some o → (∀ xs, o ≠ .lst xs) → (∀ ps, o ≠ .tbl ps) → H' b = some o) : LamAt X k H' f tb := by
  obtain ⟨args, body, scope, c', oc, vs, t, e1, e2, r⟩ := x
  exact ⟨args, body, scope, c', oc, vs, t, kp _ _ e1 (fun _ z => nomatch z) (fun _ z => nomatch z), kp _ _ e2 (fun _ z => nomatch z) (fun _ z => nomatch z), r⟩
theorem LamAt.same {X : Cx} {k : Nat} {H H' : Hp} {f : Addr} {tb : XK → TE} (x : LamAt X k H f tb) (e : Same H H') : LamAt X k H' f tb := x.of fun b o h _ _ => e b o h
theorem LamAt.grow {X : Cx} {k : Nat} {H H' : Hp} {f T : Addr} {q : Str} {tb : XK → TE} (x : LamAt X k H f tb) (t : TabI H T q) (g : Grow T q H H') : LamAt X k H' f tb := x.of fun b o h _ n => g.2 b o h fun z => by
  obtain ⟨ps, e, _⟩ := t
  subst z; rw [e] at h; exact n ps (Option.some.inj h).symm
/-- one list changed -/
theorem LamAt.but {X : Cx} {k : Nat} {H H' : Hp} {f b : Addr} {tb : XK → TE} {xs : List V} (x : LamAt X k H f tb) (e : But b H H') (hb : H b = some (.lst xs)) : LamAt X k H' f tb := x.of fun c o h n _ => e c o h fun z => by subst z; rw [hb] at h; exact n xs (Option.some.inj h).symm
def tLam (X : Cx) (k : Nat) (T : Addr) (tb : XK → TE) : TE := fun σ H Q => TabI H T (X.env.qual ++ "<lambda>") ∧ ∀ H1 f, H f = none → Grow T (X.env.qual ++ "<lambda>") H H1 → LamAt X k H1 f tb → Q (.ref f) H1
section
variable {X : Cx} {k : Nat} {c T : Addr} {args : Arguments} {body : Expr} {scope : Scope} {lpos : Pos} {tb : XK → TE}
theorem pe_lam (hcode : X.env.code = .ref c) (C : PySem.W.CodeHd X.base c T) (B : BmAt X.mg X.base) (G : LamGood X k args body scope tb) (hdef : defaultsOf args X.env = ([], []) := by rfl) : PE X (.Lambda args body scope lpos) (tLam X k T tb) := by
  intro pins s σ H Q I h
  obtain ⟨tab, h⟩ := h
  refine lam_eval I hcode C tab B (Inv.hfree I G.fr) hdef fun f H1 s1 c' ctv pm I1 tab1 gk gn nf fge ho hcd htc => ?_
  obtain ⟨oc, htc⟩ := htc
  have hoc : s1.heap.get? c' = some oc := (I1.hok c' _ htc).1
  obtain ⟨c2, o2, vs, t, e2, h2, hd, hv⟩ := hcd
  cases e2
  rw [hoc] at h2; cases h2
  have I2 := Inv.track I1 nf (far_of I fge) (LamO.ok (H := upd H1 f (LamO f (X.env.qual ++ "<lambda>") args body scope (cloFrom X.env.cells scope.names []) c')) ho)
  have sm : Same H1 (upd H1 f (LamO f (X.env.qual ++ "<lambda>") args body scope (cloFrom X.env.cells scope.names []) c')) := Same.new nf
  exact ⟨.ref f, _, I2, rfl, h _ f (I.hok.fresh fge) ⟨tab1.same sm, fun b o e n => sm b o (gk b o e n)⟩ ⟨args, body, scope, c', oc, vs, t, upd_same, sm _ _ htc, hd, hv, G⟩⟩
theorem lc_coreI {pins : List (Addr × Obj)} {s : Shared} {σ : St} {H : Hp} {Q : VK} {elt tg iter : Expr} {ifs : List Expr} {scope : Scope} {own : List (Str × Nat)} {pos pos' : Pos} {wi : TI} {g : TG} {tt : TT} {te : TE} {use : Option (Value → Sem Unit)} {Qf : Value → Shared → Prop}
    (hc : X.calm = true) (hN : X.N.Nodup) (I : Inv X pins σ H s) (hi : PI X tg iter wi) (ok : BlkOk X.N X.env.scope scope own)
    (hg : ∀ (s : Shared) (H : Hp) (C : Addr) (cl : List (Str × Addr)) (fp : List Addr), PG (X.blk s H scope (compEnvC scope cl C X.env) fp) tg g) (ht : ∀ (s : Shared) (H : Hp) (C : Addr) (cl : List (Str × Addr)) (fp : List Addr), PTs (X.blk s H scope (compEnvC scope cl C X.env) fp) ifs tt)
    (he : ∀ (s : Shared) (H : Hp) (C : Addr) (cl : List (Str × Addr)) (fp : List Addr), Inv X pins σ H s → (∀ b ∈ fp, FpOk X pins H b) → PE (X.blk s H scope (compEnvC scope cl C X.env) fp) elt te) (hs : ∀ x, foldedSetIterable iter X.env x = pure x)
    (h : tLc wi g tt te (own.map (·.2)) σ H Q)
    (hRR : ∀ D C s' m H', Inv X pins σ H' s' → Q (.ref D) H' → s'.heap.Ns C m → FpOk X pins H' C → compPost (model X.prog X.w) X.A X.xe use Qf (.ref D) C (.ok .next) s') :
    wpAny (model X.prog X.w) X.A (comprehension (.ListComp elt [⟨tg, iter, ifs, 0⟩] scope pos) scope X.env pos' (newList []) false (eval iter X.env) use) Qf X.xe s := by
  have hfree : ∀ y ∈ scope.names, y.2 = .free → ∃ c, X.env.cells.lookup y.1 = some c := fun y hy e => by
    rcases ok.free y hy e with k | k
    · exact I.ok.has _ (.inl k)
    · exact I.ok.has _ (.inr k)
  refine wpAny_comprehension_free (use := use) rfl hs (closure_ok hfree) ok.kind (fun y hy e => by rw [ok.uniq y hy, e])
    (thn (hi pins s σ H _ I h) fun xv s1 hx => thn hx fun itv s2 h2 => ?_)
  obtain ⟨it, fp, tn, J, H2, e, I2, T, st2, f2, q⟩ := h2
  subst e
  refine wpAny_newObj_type (newEnv_comp ?_) (by show 0 ≤ sizeLine; decide)
  generalize hD : s2.heap.objs.size = D
  have hDn : H2 D = none := I2.hok.fresh (Nat.le_of_eq hD)
  obtain ⟨W, ⟨m0, w0⟩, turn⟩ := q D hDn
  -- the new list
  generalize hs3 : ({ s2 with heap := s2.heap.push { cls := .type "list", data := .seq ([] : List Value).toArray } } : Shared) = s3
  have I3 : Inv X pins σ (upd H2 D (.lst [])) s3 := by
    rw [← hs3]
    refine I2.laid (t' := s2.toks) (fun b o e => Heap.get?_push_of_some _ e) (Nat.le_of_eq hD) ⟨Nat.zero_le _, [], 0, .nil, ?_⟩
    rw [← hD]
    exact Heap.get?_push_size _ rfl
  have h3 : s3.heap = s2.heap.push { cls := .type "list", data := .seq ([] : List Value).toArray } := by rw [← hs3]
  have sz : ∀ b ∈ fp, b < s2.heap.objs.size := fun b hb => by
    obtain ⟨o, e, _⟩ := T.obj _ _ st2 b hb
    exact Heap.lt_size e
  have f3 : ∀ b ∈ fp, FpOk X pins (upd H2 D (.lst [])) b ∧ b < s3.heap.objs.size := fun b hb => by
    have hlt := sz b hb
    refine ⟨⟨?_, (f2 b hb).2⟩, by rw [h3, Heap.size_push]; exact Nat.lt_succ_of_lt hlt⟩
    rw [upd_ne (by rw [← hD]; exact Nat.ne_of_lt hlt)]
    exact (f2 b hb).1
  have st3 : tn 0 s3.heap := T.keep _ _ _ st2 fun b _ o e => by rw [h3]; exact Heap.get?_push_of_some _ e
  have I4 := block_start I3 ok hN f3
  have pg := hg s3 (upd H2 D (.lst [])) s3.heap.objs.size (cellsFrom (s3.heap.objs.size + 1) scope.names (cloFrom X.env.cells scope.names [])) fp
  have pt := ht s3 (upd H2 D (.lst [])) s3.heap.objs.size (cellsFrom (s3.heap.objs.size + 1) scope.names (cloFrom X.env.cells scope.names [])) fp
  have pe := he s3 (upd H2 D (.lst [])) s3.heap.objs.size (cellsFrom (s3.heap.objs.size + 1) scope.names (cloFrom X.env.cells scope.names [])) fp I3 (fun b hb => (f3 b hb).1)
  show codeAny _ _ (.compStart (.ListComp elt [⟨tg, iter, ifs, 0⟩] scope pos) 0 (.ref it) (.ref D) (compEnvC scope (cellsFrom (s3.heap.objs.size + 1) scope.names (cloFrom X.env.cells scope.names [])) s3.heap.objs.size X.env)) (compPost (model X.prog X.w) X.A X.xe use Qf (.ref D) s3.heap.objs.size) { s3 with heap := pushCells (s3.heap.push { cls := .type "dict", data := .dict #[] }) scope.names }
  have nfp : ∀ b ∈ fp, (upd H2 D (.lst [])) b = none := fun b hb => (f3 b hb).1.1
  generalize hce : compEnvC scope (cellsFrom (s3.heap.objs.size + 1) scope.names (cloFrom X.env.cells scope.names [])) s3.heap.objs.size X.env = ce at I4 pg pt pe ⊢
  have cL : ce.locals = s3.heap.objs.size := by subst hce; rfl
  generalize hH3 : upd H2 D (.lst []) = H3 at I3 I4 pg pt pe w0 nfp f3
  generalize hs4 : ({ s3 with heap := pushCells (s3.heap.push { cls := .type "dict", data := .dict #[] }) scope.names } : Shared) = s4 at I4 ⊢
  have st4 : tn 0 s4.heap := T.keep _ _ _ st3 fun b _ o e => by rw [← hs4]; exact pushCells_keeps _ _ _ _ (Heap.get?_push_of_some _ e)
  have stat : ∀ {σ' : St} {H' : Hp} {s' : Shared}, Inv (X.blk s3 H3 scope ce fp) [] σ' H' s' → (∀ b ∈ fp, H' b = none) → ∀ b ∈ fp, FpOk (X.blk s3 H3 scope ce fp) [] H' b := fun {σ' H' s'} I' hn b hb =>
    ⟨hn b hb, (I'.ok.exf b hb).1, I'.ok.exfs b hb, .inl hb, fun x c e => (I'.ok.exf b hb).2 x c e, fun p hp => absurd (show p ∈ ([] : List (Addr × Obj)) ++ [] from hp) (by simp)⟩
  have loop : codeAny (model X.prog X.w) X.A (.compLoop (.ListComp elt [⟨tg, iter, ifs, 0⟩] scope pos) 0 (.ref it) (.ref D) ce) (compPost (model X.prog X.w) X.A X.xe use Qf (.ref D) s3.heap.objs.size) s4 := by
    refine compLoop_any (fun n s' => ∃ i H', Inv (X.blk s3 H3 scope ce fp) [] (wipe σ (own.map (·.2))) H' s' ∧ tn i s'.heap ∧ (∀ b ∈ fp, H' b = none) ∧ W i n H') ?_ m0 ⟨0, H3, I4, st4, nfp, w0⟩
    rintro n s5 ⟨i, H5, I5, st5, n5, w5⟩
    rcases turn i n H5 w5 with ⟨stop, qq⟩ | ⟨go, Nx, hNx, step⟩
    · have td := T.done (X.blk s3 H3 scope ce fp) rfl rfl rfl hc i [] s5 _ H5 (fun _ _ => False) I5 (stat I5 n5) st5 stop
      refine thnF td fun r s6 ⟨hr, I6⟩ => ?_
      subst hr
      -- back in the def's context
      have I7 : Inv X pins σ H5 s6 := I3.call' (ch := fp) I6.os I6.base I6.hok I6.bare fun b hb => ⟨(f3 b hb).1.2.2.2.1, (f3 b hb).1.2.1, (f3 b hb).1.2.2.2.2.1, (f3 b hb).1.2.2.2.2.2⟩
      have nC : H5 s3.heap.objs.size = none := by
        have z : H5 ce.locals = none := I6.free
        rw [cL] at z
        exact z
      obtain ⟨m, hn, _⟩ := I6.loc
      have hn : s6.heap.Ns ce.locals m := hn
      rw [cL] at hn
      exact hRR D s3.heap.objs.size s6 m H5 I7 qq hn (I3.fpOk (Nat.le_refl _) nC)
    · have ti := T.item (X.blk s3 H3 scope ce fp) rfl rfl rfl hc i [] s5 _ H5 (fun _ _ => False) I5 (stat I5 n5) st5 go
      refine thnF ti fun r s6 ⟨u, hr, h6⟩ => ?_
      subst hr
      refine thnF h6 fun _ s7 ⟨x, H7, I7, r7, y7, st7, n7⟩ => ?_
      have I7' := I7.pinned (stat I7 n7) (T.obj _ _ st7)
      refine thnF (pg _ s7 _ H7 x u _ I7' r7 (step x H7 y7)) fun _ s8 ⟨σ8, H8, I8, hw8, q8⟩ => ?_
      refine thnF (pt _ s8 σ8 H8 _ I8 q8) fun b s9 ⟨H9, I9, q9⟩ => ?_
      -- the turn's end
      have fin : ∀ {s' : Shared} {H' : Hp}, Inv (X.blk s3 H3 scope ce fp) ([] ++ pinsAt fp s7.heap) σ8 H' s' → Nx H' → ∃ m, m < n ∧ ∃ i H', Inv (X.blk s3 H3 scope ce fp) [] (wipe σ (own.map (·.2))) H' s' ∧ tn i s'.heap ∧ (∀ b ∈ fp, H' b = none) ∧ W i m H' := fun {s' H'} I' nx => by
        obtain ⟨m', hm, w'⟩ := hNx H' nx
        have pin' : ∀ b ∈ fp, ∀ o, s7.heap.get? b = some o → s'.heap.get? b = some o ∧ H' b = none := fun b hb o e =>
          let z := I'.pin (b, o) (List.mem_append_right _ (List.mem_append_right _ (mem_pinsAt hb e)))
          ⟨z.1, z.2.1⟩
        have hl : (wipe σ (own.map (·.2))).length = σ8.length := by rw [← hw8, wipe_length]
        refine ⟨m', hm, i + 1, H', (I'.unpinned (pins := [])).weak hl (fun j v e => ?_), T.keep _ _ _ st7 fun b hb o e => (pin' b hb o e).1, fun b hb => ?_, w'⟩
        · rw [← hw8] at e
          exact (wipe_some e).1
        · obtain ⟨o, e, _⟩ := T.obj _ _ st7 b hb
          exact (pin' b hb o e).2
      cases b with
      | false =>
        simp only [Bool.false_eq_true, if_false] at q9 ⊢
        exact fin I9 q9
      | true =>
        simp only [if_true] at q9 ⊢
        refine thnF (pe _ s9 σ8 H9 _ I9 q9) fun z s10 ⟨yv, H10, I10, r10, acc, hD10, hz10, nx⟩ => ?_
        exact app_ok (X := X.blk s3 H3 scope ce fp) I10 hD10 hz10 r10 fun s11 I11 => fin I11 nx
  exact codeAny_compStart_list loop (T.self X.A 0 _ _ _ st4 loop)
theorem pe_lcI {elt tg iter : Expr} {ifs : List Expr} {bsc : Scope} {own : List (Str × Nat)} {pos : Pos} {wi : TI} {g : TG} {tt : TT} {te : St → TE} (hc : X.calm = true) (hN : X.N.Nodup) (hi : PI X tg iter wi) (ok : BlkOk X.N X.env.scope bsc own)
    (hg : ∀ (s : Shared) (H : Hp) (C : Addr) (cl : List (Str × Addr)) (fp : List Addr), PG (X.blk s H bsc (compEnvC bsc cl C X.env) fp) tg g) (ht : ∀ (s : Shared) (H : Hp) (C : Addr) (cl : List (Str × Addr)) (fp : List Addr), PTs (X.blk s H bsc (compEnvC bsc cl C X.env) fp) ifs tt)
    (he : ∀ (pins : List (Addr × Obj)) (σ : St) (s : Shared) (H : Hp) (C : Addr) (cl : List (Str × Addr)) (fp : List Addr), Inv X pins σ H s → (∀ b ∈ fp, FpOk X pins H b) → PE (X.blk s H bsc (compEnvC bsc cl C X.env) fp) elt (te σ)) (hs : ∀ x, foldedSetIterable iter X.env x = pure x := by intro _; rfl) :
    PE X (.ListComp elt [⟨tg, iter, ifs, 0⟩] bsc pos) (fun σ => tLc wi g tt (te σ) (own.map (·.2)) σ) := by
  intro pins s σ H Q I h
  rw [eval_ListComp]
  refine lc_coreI hc hN I hi ok hg ht (fun s H C cl fp J f => he pins σ s H C cl fp J f) hs h fun D C s' m H' I' q hn f => ⟨m, hn, fun h'' sb => ?_⟩
  obtain ⟨f0, f1, f2, f3, f4, f5⟩ := f
  exact ⟨.ref D, H', I'.turned (t' := s'.toks) (fun b o hb e => (sb.2 b hb).trans e) f0 f1 f3 f4 f5, rfl, q⟩
/-- _law_tried(x) in a comprehension of the frame that made the lambda at x -/
def tTriedV (X : Cx) (k : Nat) (B1 B2 B3 : Addr) (i : Nat) (σL : St) : TE := fun σ H Q => ∃ f tb, σ[i]? = some (some (.ref f)) ∧ LamAt X k H f tb ∧ tb (EWord X.K B1 B2 B3 Q) σL H (QTold Q)
theorem pe_triedv {st : Stmt} {f B1 B2 B3 : Addr} {fd : FuncData} {bsc : Scope} {pins : List (Addr × Obj)} {σL : St} {s : Shared} {H : Hp} {C : Addr} {cl : List (Str × Addr)} {fp : List Addr} {i : Nat} {x : Str} {p p2 pos : Pos}
    (F : Fun X.K "_law_tried" "_law_tried" st f fd) (hbd : Binds X.K fd [("_law_act" : Str)] []) (hm : X.mg "_law_tried" = some (.ref f)) (S : TrScope (defScope st)) (hb : TriedBody (defBody st)) (Tc : TrCls X.K X.mg B1 B2 B3)
    (hr : Room (k + 2) X.A) (hfn : ∀ x, X.fn x = true) (I : Inv X pins σL H s) (hfp : ∀ b ∈ fp, FpOk X pins H b) (hg : Gl (X.blk s H bsc (compEnvC bsc cl C X.env) fp) "_law_tried") (hN : X.N[i]? = some x) (hv : Vis (compEnvC bsc cl C X.env).scope x)
    (hd : (x == ("__debug__" : Str)) = false := by decide) (hcd : (x == ("__classdict__" : Str)) = false := by decide) (he : starEach [.Name x p2] (compEnvC bsc cl C X.env) = (false, eval (.Name x p2) (compEnvC bsc cl C X.env)) :: starEach [] (compEnvC bsc cl C X.env) := by rfl) :
    PE (X.blk s H bsc (compEnvC bsc cl C X.env) fp) (.Call (.Name "_law_tried" p) [.Name x p2] [] pos) (tTriedV X k B1 B2 B3 i σL) := by
  intro pins2 s2 σ2 H2 Q I2 h
  obtain ⟨fl, tb, hσ, la, q⟩ := h
  refine wpAny_Call_Name_kw (ld_glob I2 hg hm ?_ (by decide))
  refine PySem.W.callWith_K (h₀ := X.base) I2.ok.mod.kin F.kp (thn (pa_cons (X := X.blk s H bsc (compEnvC bsc cl C X.env) fp) (pe_var hN hv hd hcd) pa_nil he pos pins2 s2 σ2 H2 (fun vs H' => vs = [.ref fl] ∧ H' = H2) I2 ⟨_, hσ, rfl, rfl⟩) fun us s3 ⟨vs, H3, I3, r, ev, eH⟩ => ⟨I3.kIn, ?_⟩) he rfl
  subst ev eH
  obtain ⟨u, rfl, ru⟩ := vals1 r
  cases ru
  obtain ⟨args, body, scope, c', oc, vs, t, e1, e2, ed, ev, G⟩ := la
  have ac : Act X.prog X.w X.K X.mg X.base (k + 1) (frs X.stack) s3 H3 fl (fun H' Q' E' => tb E' σL H' Q') := by
    refine ⟨fun s' H' keep same hok => ?_, fun A outer s' H' Q' E' hr' e0 keep same q' => ?_⟩
    · obtain ⟨pm, ctv, e⟩ := (hok fl _ (same fl _ e1)).1
      exact ⟨_, _, _, _, e⟩
    · obtain ⟨pm, ctv, e⟩ := (e0.hok fl _ (same fl _ e1)).1
      have hoc' : s'.heap.get? c' = some oc := (e0.hok c' _ (same c' _ e2)).1
      have cp : Capt X.N scope (cloFrom X.env.cells scope.names []) σL H' s'.heap := (Inv.capt I G.fr).keeps fun y b o y1 y2 y3 => by
        have hcl := clo_cells I G.fr y1
        have nf := Inv.cstk I hfn hcl
        have nx : b ∉ fp := fun hb' => (hfp b hb').2.2.2.2.1 y b hcl rfl
        exact keep b o (I3.base.keep b o y2 y3 nf nx) (I3.base.free b o y2 y3 nx) nf
      exact call_lam (t := tb E') G.sc hr' e0 cp e ⟨c', oc, vs, t, rfl, hoc', ed, ev⟩ (G.bi _ _ _ _) (G.bd _ _ _ _ _ _ _ _ (hr'.deeper _)) q'
  refine wpAny_call (codeAny_mono (tried_call (CX := fun _ _ _ _ _ _ => False) (E := fun _ _ _ => False) (Q := Q) F S hb Tc hr I3.env0 (by have := hbd s3 [.ref fl] I3.kIn rfl; exact this) ac q) fun r s' hq => ?_)
  cases r with
  | error e => exact hq.elim
  | ok fl =>
    cases fl with
    | ret u => exact I3.after hq
    | next => exact False.elim hq
    | brk => exact False.elim hq
    | cont => exact False.elim hq
end
end L2.Lw

set_option Elab.async false
set_option linter.all false
set_option maxRecDepth 100000
namespace HT
open PySem PySem.Spec PyProof.Rows
section
variable {prog : Program} {w : World} {A : Around} {E : Value → Shared → Prop} {s : Shared}
end
end HT
namespace L2.Lw
open PySem PySem.Spec PyProof.Rows
section
variable {X : Cx} (K : PySem.W.Frag)
end
end L2.Lw

set_option Elab.async false
set_option linter.all false
set_option maxRecDepth 100000
namespace L2.Lw
open PySem PySem.Spec PyProof.Rows
section
variable {X : Cx}
/-! ### isinstance of what may lie in the module's heap -/
def TyS (K : PySem.W.Frag) (H : Hp) (x : V) (n : String) : Prop := TyN H x n ∨ (n = "tuple" ∧ ∃ a xs, x = .ref a ∧ SqT K H a xs)
theorem isiK1 (K : PySem.W.Frag) (h : X.K = K := by rfl) : CallR X (.builtin "isinstance") (fun xs H Q => ∃ x c n b, xs = [x, .ty c] ∧ TyS K H x n ∧ PySem.W.kitOne K (.type n) (.type c) = some b ∧ Q (.bl b) H) := by
  subst h
  intro pins s σ H xs us Q I r h
  obtain ⟨x, c, n, b, ex, ty, e, q⟩ := h
  rcases ty with ty | ⟨rfl, a, ys, rfl, hs⟩
  · exact call_isi1 pins s σ H xs us Q I r ⟨x, c, n, b, ex, ty, e, q⟩
  · subst ex
    obtain ⟨u1, u2, rfl, r1, r2⟩ := vals2 r
    cases (show u2 = Value.type c from r2)
    cases (show u1 = Value.ref a from r1)
    obtain ⟨its, _, ht, _⟩ := I.tuple hs
    obtain ⟨o, h1, h2, _⟩ := ht
    exact PySem.W.kia_one PySem.W.kitx_tuple I.kIn ⟨o, h1, h2⟩ e (fun z => nomatch z) fun tk => ⟨.bl b, H, I.tok tk, rfl, q⟩
theorem isiKT (K : PySem.W.Frag) (h : X.K = K := by rfl) : CallR X (.builtin "isinstance") (fun xs H Q => ∃ x p c d n b, xs = [x, .ref p] ∧ TyS K H x n ∧ H p = some (.tup [.ty c, .ty d]) ∧ PySem.W.kitAny K (.type n) [.type c, .type d] = some b ∧ Q (.bl b) H) := by
  subst h
  intro pins s σ H xs us Q I r h
  obtain ⟨x, p, c, d, n, b, ex, ty, hp, e, q⟩ := h
  rcases ty with ty | ⟨rfl, a, ys, rfl, hs⟩
  · exact call_isiT pins s σ H xs us Q I r ⟨x, p, c, d, n, b, ex, ty, hp, e, q⟩
  · subst ex
    obtain ⟨u1, u2, rfl, r1, r2⟩ := vals2 r
    cases (show u2 = Value.ref p from r2)
    obtain ⟨hz, its, rv, ob⟩ := (show ObjOk X.prog X.w H s.heap p (.tup [.ty c, .ty d]) from I.hok p _ hp)
    obtain ⟨⟨cls, dd, data, sl⟩, ho, hc, k, hd⟩ := id ob
    simp only at hc hd; subst hc hd
    have ei : its = [Value.type c, Value.type d] := by
      cases rv with
      | cons a rv => cases rv with
        | cons b rv => cases rv; rw [show _ = Value.type c from a, show _ = Value.type d from b]
    subst ei
    cases (show u1 = Value.ref a from r1)
    obtain ⟨its2, _, ht, _⟩ := I.tuple hs
    obtain ⟨o, h1, h2, _⟩ := ht
    exact PySem.W.kia_tup PySem.W.kitx_tuple I.kIn ⟨o, h1, h2⟩ ho e (fun z => nomatch z) fun tk => ⟨.bl b, H, I.tok tk, rfl, q⟩
end
end L2.Lw

set_option Elab.async false
set_option linter.all false
set_option maxRecDepth 100000
namespace L2.Lw
open PySem PySem.Spec PyProof.Rows PySem.W Builtin Builtin.ObjectAttr
section
variable {prog : Program} {w : World} {A : Around} {E : Value → Shared → Prop} {s : Shared} {K : Frag} {x C da : Addr} {ox od : Obj} {name : Str} {v : Value} {cd : ClassData} {bm : List Value} {B : String} {mA : Str → Option Value} {ns : List Str}
end
end L2.Lw
namespace L2.Lw
open PySem PySem.Spec PyProof.Rows
section
variable {X : Cx} {pins : List (Addr × Obj)} {σ : St} {H : Hp} {s : Shared}
end
section
variable {X : Cx} {o value : Expr} {to tv : TE} {f : Str} {pos pos' : Pos}
end
end L2.Lw

set_option Elab.async false
set_option linter.all false
set_option maxRecDepth 100000
namespace L2.Lw
open PySem PySem.Spec PyProof.Rows
section
variable {P : Program} {w : World} {K : PySem.W.Frag} {mg : Str → Option Value} {base : Heap} {CX : CXT} {B1 B2 B3 : Addr}
end
section
variable {X : Cx} {pins : List (Addr × Obj)} {σ : St} {H : Hp} {s : Shared}
variable {k : Nat} {st : Stmt} {f c T B1 B2 B3 : Addr} {fd : FuncData} {args : Arguments} {body : Expr} {scope : Scope} {p lpos pos : Pos} {tb : XK → TE}
end
section
variable {X : Cx} {k : Nat} {c T : Addr} {args : Arguments} {body : Expr} {scope : Scope} {lpos : Pos} {tb : XK → TE}
end
end L2.Lw

set_option Elab.async false
set_option linter.all false
set_option maxRecDepth 100000
namespace L2.Lw
open PySem PySem.Spec PyProof.Rows
theorem law_callN {P : Program} {w : World} {K : PySem.W.Frag} {mg mb : Str → Option Value} {CX : CXT} {k : Nat} {fa a : Addr} {Ts : List Addr} {fd : FuncData} {x : Str} {sp : Sp} {s₁ : Shared} {vs : List Value} {ns : List Int}
    (KX : K.In s₁.heap) (hns : s₁.heap.Ns mainGlobals mg) (hb : s₁.heap.Ns builtinsNs mb) (hbb : ∀ x : Str, x ≠ "__name__" → mb x = bootBuiltins x) (hlim : s₁.heap.NoLimit) (hg : s₁.gens = #[])
    (ha : s₁.heap.get? a = some { cls := .type "list", data := .seq vs.toArray }) (hi : IntsAre vs ns) (hl : ns.length ≤ sizeLine) (hr : Room k callerA) (hT : ∀ T ∈ Ts, s₁.heap.get? T = some (PySem.W.tabObj #[])) (hC : ∀ T ∈ Ts, ∃ c, PySem.W.codeHdIn K c T = true) (nt : PySem.W.noTabs K = true) (hB : BmAt mg s₁.heap)
    (F : ∀ base : Heap, K.In base → base.Ns mainGlobals mg → BmAt mg base → FnOk P w K mg base CX k fa fd [x] sp) (hbind : ∀ (s : Shared) (u : Value), BindsTo s fd ⟨[u], []⟩ [(x, u)])
    (hsp : ∀ H : Hp, (∀ T ∈ Ts, H T = some (.tbl #[])) → SqL K H a (ns.map V.int) → sp [.ref a] H (fun v _ => v = .bl true) fun _ _ _ => False)
    (hCX : ∀ H e s', CX [] H s₁ (fun _ _ _ => False) e s' → False) :
    codeAny (model P w) callerA (.call (.ref fa) ⟨[.ref a], []⟩) (fun r s' => r = .ok (.ret (.bool true)) ∧ OldK s₁.heap s'.heap ∧ s'.os = s₁.os ∧ AllBare s'.gens) s₁ := by
  have rv := vals_ints hi
  have lenV := hi.length
  have haT : a ∉ Ts := fun z => by rw [hT a z] at ha; cases ha
  have kT : ∀ T ∈ Ts, K.lookup T = none := fun T hTs => by
    cases q : K.lookup T with
    | none => rfl
    | some o =>
      have e := KX T o q
      rw [hT T hTs] at e
      cases e
      have h2 := List.all_eq_true.mp nt (T, _) (PySem.W.mem_of_lookupK q)
      exact absurd (show false = true from h2) Bool.false_ne_true
  have core : ∀ H : Hp, (∀ T ∈ Ts, H T = some (.tbl #[])) → (∀ b, b ∉ Ts → H b = none ∨ ∃ o xs, H b = some (.frz o (.lst xs))) → SqL K H a (ns.map V.int) → HOk P w H s₁.heap → (∀ b, H b ≠ none → b = a ∨ b ∈ Ts) → (H a ≠ none → K.lookup a = none) →
      codeAny (model P w) callerA (.call (.ref fa) ⟨[.ref a], []⟩) (fun r s' => r = .ok (.ret (.bool true)) ∧ OldK s₁.heap s'.heap ∧ s'.os = s₁.os ∧ AllBare s'.gens) s₁ := by
    intro H hHT hO hS hok hA hK
    have base_of : ∀ {b : Addr} {o : Obj}, s₁.heap.get? b = some o → H b = none → (hidT s₁.heap H).get? b = some o := fun e n => hidT_get e n
    have noA : ∀ {b : Addr} {o : Obj}, s₁.heap.get? b = some o → (∀ its n, o.data ≠ .seq its n) → (∀ fs, o.data ≠ .fields fs) → H b = none := fun {b o} e d1 d2 => by
      cases q : H b with
      | none => rfl
      | some u =>
        rcases hA b (by rw [q]; simp) with z | z
        · subst z; rw [ha] at e; cases e; exact absurd rfl (d1 _ _)
        · rw [hT b z] at e; cases e; exact absurd rfl (d2 _)
    have nsK : ∀ {b : Addr} {m : Str → Option Value}, s₁.heap.Ns b m → (hidT s₁.heap H).Ns b m := fun {b m} ⟨o, es, ep, e, d, r⟩ => ⟨o, es, ep, base_of e (noA e (fun _ _ z => by rw [d] at z; cases z) fun _ z => by rw [d] at z; cases z), d, r⟩
    have hKb : K.In (hidT s₁.heap H) := fun b o e => base_of (KX b o e) (by
      cases q : H b with
      | none => rfl
      | some u =>
        rcases hA b (by rw [q]; simp) with z | z
        · subst z; rw [hK (by rw [q]; simp)] at e; cases e
        · rw [kT b z] at e; cases e)
    have hM : Mod K mg (hidT s₁.heap H) := ⟨hKb, nsK hns, ⟨mb, nsK hb, hbb⟩, let ⟨mc, h1, h2⟩ := hlim; ⟨mc, nsK h1, h2⟩⟩
    have hB' : BmAt mg (hidT s₁.heap H) := by
      obtain ⟨bm, ob, b1, b2, b3, b4, b5, b6⟩ := hB
      exact ⟨bm, ob, b1, b2, base_of b3 (noA b3 (fun _ _ z => by rw [b6] at z; cases z) fun _ z => by rw [b6] at z; cases z), b4, b5, b6⟩
    have e0 : Env0 P w K mg (hidT s₁.heap H) callerA [] s₁ H := ⟨rfl, hM, fun b o e => of_hidT e, Nat.le_of_eq (hidT_size _ _), trivial, fun b hb => absurd (show b ∈ ([] : List Addr) from hb) (by simp), hok, .of_eq hg⟩
    refine codeAny_mono ((F _ hKb (nsK hns) hB').run callerA [] s₁ H ⟨[.ref a], []⟩ [.ref a] [.ref a] _ _ hr e0 (hbind s₁ (.ref a)) (.cons rfl .nil) (hsp H hHT hS)) fun r s' h => ?_
    cases r with
    | error e => exact (hCX H e s' h).elim
    | ok fl =>
      cases fl with
      | next => exact False.elim h
      | brk => exact False.elim h
      | cont => exact False.elim h
      | ret u =>
        obtain ⟨v, H', os, bare, un, hok', r', q⟩ := h
        have q' : v = .bl true := q
        subst q'
        obtain rfl : u = Value.bool true := r'
        have keep : ∀ b o, b ∉ Ts → s₁.heap.get? b = some o → s'.heap.get? b = some o := fun b o n e => by
          cases q : H b with
          | none => exact un.keep b o e q (by intro z; exact absurd (show b ∈ ([] : List Addr) from z) (by simp)) (by simp)
          | some u =>
            rcases hO b n with z | ⟨ob, xs, z⟩
            · rw [q] at z; cases z
            · have z2 := un.frzs b ob _ z
              obtain ⟨e1, _⟩ := hok b _ z
              obtain ⟨e2, _⟩ := hok' b _ z2
              rw [e] at e1; cases e1
              exact e2
        refine ⟨rfl, ⟨fun b o e => ?_, fun b o e => ?_⟩, os, bare⟩
        · by_cases hb : b ∈ Ts
          · rw [hT b hb] at e; cases e
            obtain ⟨c, hc⟩ := hC b hb
            obtain ⟨more, eT⟩ := un.tbls b _ (hHT b hb)
            exact .inr (.inl ⟨((PySem.W.codeHd_of_K KX hc).tab (hT b hb)).isCodeTable, rfl, #[], more, rfl, hok' b _ eT⟩)
          · exact .inl (keep b o hb e)
        · by_cases hb : b ∈ Ts
          · obtain ⟨more, eT⟩ := un.tbls b _ (hHT b hb)
            exact ⟨_, hok' b _ eT⟩
          · exact ⟨o, keep b o hb e⟩
  have okT : ∀ (H : Hp) (T : Addr), T ∈ Ts → ObjOk P w H s₁.heap T (.tbl #[]) := fun H T h => hT T h
  cases hk : K.lookup a with
  | some o =>
    have e := KX a o hk
    rw [ha] at e
    cases e
    refine core (fun b => if b ∈ Ts then some (.tbl #[]) else none) (fun T h => if_pos h) (fun b n => .inl (if_neg n)) (.inr ⟨_, vs.toArray, _, hk, rfl, rfl, rfl, by rw [List.size_toArray, lenV]; exact hl, by simpa using rv⟩) (fun b u z => ?_) (fun b z => ?_) fun z => absurd (if_neg haT) z
    · by_cases hb : b ∈ Ts
      · have z' := (if_pos hb).symm.trans z
        cases z'; exact okT _ _ hb
      · have z' := (if_neg hb).symm.trans z
        cases z'
    · by_cases hb : b ∈ Ts
      · exact .inr hb
      · exact absurd (if_neg hb) z
  | none =>
    refine core (fun b => if b ∈ Ts then some (.tbl #[]) else if b = a then some (.frz { cls := .type "list", data := .seq vs.toArray } (.lst (ns.map V.int))) else none) (fun T h => if_pos h) (fun b n => ?_) (.inl (.inr ⟨{ cls := .type "list", data := .seq vs.toArray }, (if_neg haT).trans (if_pos rfl)⟩)) (fun b u z => ?_) (fun b z => ?_) fun _ => hk
    · by_cases hb : b = a
      · exact .inr ⟨_, _, (if_neg n).trans (if_pos hb)⟩
      · exact .inl ((if_neg n).trans (if_neg hb))
    · by_cases hb : b ∈ Ts
      · have z' := (if_pos hb).symm.trans z
        cases z'; exact okT _ _ hb
      · have z1 := (if_neg hb).symm.trans z
        by_cases hb2 : b = a
        · have z' := (if_pos hb2).symm.trans z1
          cases z'
          subst hb2
          exact ⟨ha, by rw [List.length_map]; exact hl, vs, _, rv, ha⟩
        · have z' := (if_neg hb2).symm.trans z1
          cases z'
    · by_cases hb : b ∈ Ts
      · exact .inr hb
      · by_cases hb2 : b = a
        · exact .inl hb2
        · exact absurd ((if_neg hb).trans (if_neg hb2)) z
/-- the goal that k_head leaves, for a law with lambdas -/
theorem walk_ofN {l : PySem.W.OpenLaw} {n k : Nat} {q : Program} {loose : List Str} {XP : (Str → Option Value) → Heap → Prop} {K : Params → PySem.W.Frag} {as : List Addr} {ee : ∀ P, as = (K P).map (·.1)} {ts : List Addr} {d : DefRec} {CX : World → CXT} {sp : World → Sp} {x : Str}
    (hn : l.most = some n) (hn2 : n ≤ sizeLine) (hdf : d.params.defaults = []) (hr : Room k callerA) (nt : ∀ P, PySem.W.noTabs (K P) = true)
    (F : ∀ (w : World) (mg : Str → Option Value) (fa : Addr) (h : Heap), (K w.params).In h → h.Ns mainGlobals mg → mg d.name = some (.ref fa) →
      ∃ (fd : FuncData), (∀ T ∈ ts, ∃ c, PySem.W.codeHdIn (K w.params) c T = true) ∧ (∀ (s : Shared) (u : Value), BindsTo s fd ⟨[u], []⟩ [(x, u)]) ∧
        ∀ base : Heap, (K w.params).In base → base.Ns mainGlobals mg → BmAt mg base → FnOk l.prog w (K w.params) mg base (CX w) k fa fd [x] (sp w))
    (hsp : ∀ (w : World) (H : Hp) (a : Addr) (ns : List Int), ns.length ≤ n → (∀ T ∈ ts, H T = some (.tbl #[])) → SqL (K w.params) H a (ns.map V.int) → sp w [.ref a] H (fun v _ => v = .bl true) fun _ _ _ => False)
    (hCX : ∀ (w : World) (H : Hp) (s : Shared) (e : Value) (s' : Shared), CX w [] H s (fun _ _ _ => False) e s' → False) :
    PySem.W.WalkO q loose XP (PySem.W.kmHook K as ee ts).says l.row.toRowW d [] (fun f vs => PySem.call f vs) := by
  refine Att.attach_call hn hdf fun w s₀ s₁ mg mb fa o pm cd doc a vs ns G Y ho hd hcd hmg hobj hints hlen hg => ?_
  have KX := PySem.W.km_in_of Y
  obtain ⟨fd, hC, hb, hF⟩ := F w mg fa _ KX G.T.g hmg
  have hB : BmAt mg s₁.heap := G.T.bmain
  exact law_callN KX G.T.g G.T.b G.T.builtins G.T.nolimit hg hobj hints (Nat.le_trans hlen hn2) hr (fun T hT => PySem.W.km_tabs_of Y T hT) hC (nt w.params) hB hF hb (fun H hO hS => hsp w H a ns hlen hO hS) fun H e s' => hCX w H s₁ e s'
end L2.Lw

set_option Elab.async false
set_option linter.all false
set_option maxRecDepth 100000
namespace L2.Lw
open PySem PySem.Spec PyProof.Rows
/-! ### tuples of anything joined, repeated, cut: the result, wherever it lies -/
def rCatV (K : PySem.W.Frag) : R2 := fun x y H Q => ∃ (a b : Addr) (xs ys : List V), x = .ref a ∧ y = .ref b ∧ SqT K H a xs ∧ SqT K H b ys ∧ xs.length + ys.length ≤ sizeLine ∧
  ∀ (r : Addr) (H' : Hp), Same H H' → SqT K H' r (xs ++ ys) → Q (.ref r) H'
def rRepV (K : PySem.W.Frag) : R2 := fun x y H Q => ∃ (a : Addr) (z : V) (n : Int), x = .ref a ∧ y = .int n ∧ SqT K H a [z] ∧ 0 ≤ n ∧ n.toNat ≤ sizeLine ∧
  ∀ (r : Addr) (H' : Hp), Same H H' → SqT K H' r (List.replicate n.toNat z) → Q (.ref r) H'
theorem flat_one {α : Type} (n : Nat) (z : α) : (List.replicate n [z]).flatten = List.replicate n z := by
  induction n with
  | zero => rfl
  | succ n ih => rw [List.replicate_succ, List.replicate_succ, List.flatten_cons, ih]; rfl
section
variable {X : Cx} (K : PySem.W.Frag)
theorem catV (h : X.K = K := by rfl) : OpR X (binaryOp .Add) (rCatV K) := by
  intro pins s σ H x y v u Q I rx ry q
  obtain ⟨a, b, xs, ys, e1, e2, ha, hb, hz, k⟩ := q
  refine catA K h pins s σ H x y v u Q I rx ry ⟨a, b, _, _, e1, e2, ha, hb, hz, fun e => k b H (Same.refl _) ?_, fun e => k a H (Same.refl _) ?_, fun p hp => k p _ (Same.new hp) (SqT.of upd_same)⟩
  · rw [e]; exact hb
  · rw [e, List.append_nil]; exact ha
theorem repV (h : X.K = K := by rfl) : OpR X (binaryOp .Mult) (rRepV K) := by
  intro pins s σ H x y v u Q I rx ry q
  obtain ⟨a, z, n, e1, e2, ha, h0, hz, k⟩ := q
  refine repT K h pins s σ H x y v u Q I rx ry ⟨a, _, n, e1, e2, ha, by simp, h0, by simpa using hz, fun e => k a H (Same.refl _) ?_, fun p hp => k p _ (Same.new hp) ?_⟩
  · subst e; exact ha
  · rw [flat_one]; exact SqT.of upd_same
end
end L2.Lw

set_option Elab.async false
set_option linter.all false
set_option maxRecDepth 100000
namespace L2.Lw
open PySem PySem.Spec PyProof.Rows
/-! ### list(range(n)) -/
def rangeV (n : Nat) : List V := (List.range n).map fun i => V.int (i : Nat)
def tListR (ta : TA) : TE := fun σ H Q => ta σ H fun vs H1 => ∃ j : Int, vs = [.int j] ∧ 0 ≤ j ∧ j ≤ 1000 ∧ ∀ l, H1 l = none → Q (.ref l) (upd H1 l (.lst (rangeV j.toNat)))
theorem vals_get : ∀ (xs : List V) (us : List Value), xs.length = us.length → (∀ (i : Nat) (x : V) (u : Value), xs[i]? = some x → us[i]? = some u → RelV x u) → Vals xs us
  | [], [], _, _ => .nil
  | [], _ :: _, h, _ => by cases h
  | _ :: _, [], h, _ => by cases h
  | x :: xs, u :: us, h, r => .cons (r 0 x u rfl rfl) (vals_get xs us (by simpa using h) fun i y v e1 e2 => r (i + 1) y v e1 e2)
theorem vals_items {n : Nat} {acc : Array Value} {a c : Int} (f : Nat → V) (hf : ∀ i : Nat, f i = V.int (a + i * c)) (h : ItemsOf (fun i v => ∃ t, v = .int (a + i * c) t) acc n) : Vals ((List.range n).map f) acc.toList := by
  obtain ⟨hn, h⟩ := h
  refine vals_get _ _ (by simp [hn]) fun i x u e1 e2 => ?_
  obtain ⟨t, rfl⟩ := h i u (by simpa using e2)
  rw [List.getElem?_map] at e1
  obtain ⟨k, hk, rfl⟩ := Option.map_eq_some_iff.mp e1
  rw [List.getElem?_range (by have := (List.getElem?_eq_some_iff.mp hk).1; simpa using this)] at hk
  cases hk
  rw [hf]; exact ⟨t, rfl⟩
section
variable {X : Cx} {a : Expr} {ta : TA} {p pos p2 pos2 : Pos}
theorem pe_listR (hc : X.calm = true) (hgl : Gl X "list") (hml : X.mg "list" = none) (hg : Gl X "range") (hm : X.mg "range" = none) (ha : PA X [a] ta) (hs : starEach [a] X.env = [(false, eval a X.env)] := by rfl)
    (he : starEach [.Call (.Name "range" p2) [a] [] pos2] X.env = (false, eval (.Call (.Name "range" p2) [a] [] pos2) X.env) :: starEach [] X.env := by rfl) :
    PE X (.Call (.Name "list" p) [.Call (.Name "range" p2) [a] [] pos2] [] pos) (tListR ta) := by
  intro pins s σ H Q I h
  refine wpAny_Call_Name_kw (ld_blt (u := .type "list") I hgl hml (by decide +kernel) ?_ (by decide) (by decide))
  refine PyProof.Rows.callWith_type1 ?_ he rfl
  rw [he]
  show wpAny _ _ (spliced ((false, eval (.Call (.Name "range" p2) [a] [] pos2) X.env) :: backTo pos (starEach [] X.env))) _ _ s
  refine Calls.spliced_cons ?_
  refine Call_ (ld_blt I hg hm boot_range (PyProof.Rows.callWith_type1 (thn (ha pos2 pins s σ H _ I h) fun us s1 ⟨vs, H1, I1, r1, q1⟩ => ?_) hs rfl))
  obtain ⟨j, e, q1, q2, q⟩ := q1
  subst e
  cases r1 with
  | cons r rr =>
    cases rr
    obtain ⟨t, rfl⟩ := r
    refine call_range_1 (Calls.spliced_nil ?_)
    have I2 : Inv X pins σ H1 { s1 with heap := s1.heap.push { cls := .type "range", data := .fields #[.int 0 s1.toks, .int j t, .int 1 (s1.toks + 1)] }, toks := s1.toks + 1 + 1 } := I1.kept fun b o e => Heap.get?_push_of_some _ e
    refine PySem.call_list_range (n := j.toNat) (I2.ok.hd hc) (IsRange.new ..) (small_one (by omega) (by omega) (by omega) (by omega)) (by rw [rangeSize_one]; split <;> omega) (Nat.le_trans (show j.toNat ≤ 1000 by omega) (by decide)) fun h' tk acc' c' kp e it => ?_
    refine ⟨.ref _, _, I2.laid (t' := tk) kp (Nat.le_refl _) (show ObjOk X.prog X.w _ h' _ (.lst (rangeV j.toNat)) from ⟨?_, acc'.toList, c', ?_, e⟩), rfl, q _ (I2.hok.fresh (Nat.le_refl _))⟩
    · unfold rangeV; rw [List.length_map, List.length_range]; exact Nat.le_trans (show j.toNat ≤ 1000 by omega) (by decide)
    · exact vals_items _ (fun i => by rw [Int.zero_add, Int.mul_one]) it
end
end L2.Lw

set_option Elab.async false
set_option linter.all false
set_option maxRecDepth 100000
namespace HT
open PySem PyProof.Rows
/-! ### t > u of tuples of one shape: bools (true) and ints (false) -/
inductive Kd : List Bool → List Value → List Int → Prop
  | nil : Kd [] [] []
  | int {sh : List Bool} {vs : List Value} {ns : List Int} (a : Int) (t : Tok) : Kd sh vs ns → Kd (false :: sh) (.int a t :: vs) (a :: ns)
  | bl {sh : List Bool} {vs : List Value} {ns : List Int} (b : Bool) : Kd sh vs ns → Kd (true :: sh) (.bool b :: vs) (b2i b :: ns)
theorem Kd.len {sh : List Bool} {vs : List Value} {ns : List Int} (h : Kd sh vs ns) : vs.length = sh.length := by induction h <;> simp [*]
section
open PySem.SeqAt
open PySem.AutoSeq1 (wpAny_loadPart')
open PySem.MeetsSeq PySem.MeetsSeq2 PySem.MeetsSeq3
end
section
variable {prog : Program} {w : World} {A : Around} {E : Value → Shared → Prop} {s : Shared}
end
end HT

set_option Elab.async false
set_option linter.all false
set_option maxRecDepth 100000
namespace L2.Lw
open PySem PySem.Spec PyProof.Rows
section
variable {P : Program} {w : World} {A : Around} {R : Result → Shared → Prop} {it S : Addr} {fp wr : List Addr} {n : Nat} {Pz : Nat → Value → Prop} {Zt : Nat → Heap → Prop} {Gd : Heap → Prop} {bt : Nat → Nat → Bool}
end
section
variable {P : Program} {w : World} {A : Around} {E : Value → Shared → Prop} {s : Shared} {l : Addr} {items : Array Value} {Gd : Heap → Prop} {bt : Nat → Nat → Bool} {Q : Value → Shared → Prop}
end
section
variable {X : Cx} (K : PySem.W.Frag)
end
end L2.Lw

set_option Elab.async false
set_option linter.all false
set_option maxRecDepth 100000
namespace L2.Lw
open PySem PySem.Spec PyProof.Rows
section
variable {X : Cx}
end
end L2.Lw

set_option Elab.async false
set_option linter.all false
set_option maxRecDepth 100000
namespace L2.Lw
open PySem PySem.Spec PyProof.Rows
section
variable {X : Cx} {pins : List (Addr × Obj)} {σ : St} {H : Hp} {s : Shared}
end
section
variable {X : Cx}
end
end L2.Lw

set_option Elab.async false
set_option linter.all false
set_option maxRecDepth 100000
namespace L2.Lw
open PySem PySem.Spec PyProof.Rows
section
variable {d : Addr} {o : Obj} {kvs : List (Key × V)} {g : TG} {tt : TT} {tk te : TE} {vs : List Nat} {σ : St} {H1 : Hp} {D : Addr} {Qd : Hp → Prop}
end
/-! ### rows in the heap -/
/-- tuples stay -/
def KT (K : PySem.W.Frag) (H H' : Hp) : Prop := ∀ (a : Addr) (xs : List V), SqT K H a xs → SqT K H' a xs
theorem KT.refl {K : PySem.W.Frag} {H : Hp} : KT K H H := fun _ _ h => h
theorem KT.tr {K : PySem.W.Frag} {H H1 H2 : Hp} (x : KT K H H1) (y : KT K H1 H2) : KT K H H2 := fun a xs h => y a xs (x a xs h)
theorem Same.kt {K : PySem.W.Frag} {H H' : Hp} (s : Same H H') : KT K H H' := fun _ _ h => Same.tup s h
theorem But.kt {K : PySem.W.Frag} {H H' : Hp} {b : Addr} (k : But b H H') (h : ∀ xs, H b ≠ some (.tup xs)) (h2 : ∀ o xs, H b ≠ some (.frz o (.tup xs))) : KT K H H' := fun a xs s => by
  rcases s with (s | ⟨o, s⟩) | s
  · exact .inl (.inl (k _ _ s fun z => by subst z; exact h _ s))
  · exact .inl (.inr ⟨o, k _ _ s fun z => by subst z; exact h2 _ _ s⟩)
  · exact .inr s
theorem But.ktL {K : PySem.W.Frag} {H H' : Hp} {b : Addr} {xs : List V} (k : But b H H') (h : H b = some (.lst xs)) : KT K H H' := k.kt (fun _ z => by rw [h] at z; cases z) (fun _ _ z => by rw [h] at z; cases z)
/-- the sums that a row's things are -/
def Its (K : PySem.W.Frag) (H : Hp) (vs : List V) (r : List (List Int)) : Prop := vs.length = r.length ∧ ∀ (i : Nat) (ns : List Int), r[i]? = some ns → ∃ a : Addr, vs[i]? = some (V.ref a) ∧ SqT K H a (ns.map V.int)
/-- a row at an address -/
def RA (K : PySem.W.Frag) (H : Hp) (t : Addr) (r : List (List Int)) : Prop := ∃ vs : List V, SqT K H t vs ∧ Its K H vs r
section
variable {K : PySem.W.Frag} {H H' : Hp} {vs us : List V} {r r' : List (List Int)} {t : Addr} {ns : List Int}
theorem Its.kt (h : Its K H vs r) (k : KT K H H') : Its K H' vs r := ⟨h.1, fun i ns e => let ⟨a, x, y⟩ := h.2 i ns e; ⟨a, x, k _ _ y⟩⟩
theorem RA.kt (h : RA K H t r) (k : KT K H H') : RA K H' t r := let ⟨vs, a, b⟩ := h; ⟨vs, k _ _ a, b.kt k⟩
theorem RA.same (h : RA K H t r) (s : Same H H') : RA K H' t r := h.kt (Same.kt s)
theorem Its.nil : Its K H [] [] := ⟨rfl, fun i ns e => by cases e⟩
theorem Its.app (h : Its K H vs r) (g : Its K H us r') : Its K H (vs ++ us) (r ++ r') := by
  refine ⟨by simp [h.1, g.1], fun i ms e => ?_⟩
  by_cases hi : i < r.length
  · rw [List.getElem?_append_left hi] at e
    obtain ⟨a, x, y⟩ := h.2 i ms e
    exact ⟨a, by rw [List.getElem?_append_left (by rw [h.1]; exact hi)]; exact x, y⟩
  · rw [List.getElem?_append_right (by omega)] at e
    obtain ⟨a, x, y⟩ := g.2 _ ms e
    exact ⟨a, by rw [List.getElem?_append_right (by rw [h.1]; omega), h.1]; exact x, y⟩
theorem Its.one (ht : SqT K H t (ns.map V.int)) : Its K H [.ref t] [ns] := ⟨rfl, fun i ms e => by
  match i, e with
  | 0, e => cases e; exact ⟨t, rfl, ht⟩
  | n + 1, e => cases e⟩
theorem Its.add (h : Its K H vs r) (ht : SqT K H t (ns.map V.int)) : Its K H (vs ++ [.ref t]) (r ++ [ns]) := h.app (Its.one ht)
theorem Its.getD (h : Its K H vs r) {i : Nat} (hi : i < vs.length) : ∃ a : Addr, vs[i]? = some (V.ref a) ∧ SqT K H a ((r.getD i []).map V.int) := by
  have hi2 : i < r.length := by rw [← h.1]; exact hi
  refine h.2 i _ ?_
  rw [List.getD_eq_getElem?_getD, List.getElem?_eq_getElem hi2]; rfl
end
end L2.Lw

set_option Elab.async false
set_option linter.all false
set_option maxRecDepth 100000
namespace L2.Lw
open PySem PySem.Spec PyProof.Rows
section
variable {K : PySem.W.Frag} {R : Nat → V → Hp → Prop} {H1 : Hp} {D : Addr}
def LcR (R : Nat → V → Hp → Prop) (H1 : Hp) (D : Addr) (n : Nat) (H : Hp) : Prop := Same H1 H ∧ ∃ ys : List V, H D = some (.lst ys) ∧ ys.length = n ∧ ∀ i y, ys[i]? = some y → R i y H
theorem LcR.start (hD : H1 D = none) : LcR R H1 D 0 (upd H1 D (.lst [])) := ⟨Same.new hD, [], upd_same, rfl, fun i y h => by cases h⟩
theorem LcR.turn {n : Nat} {H H4 : Hp} {y : V} (mono : ∀ n y H H', KT K H H' → R n y H → R n y H') (hD : H1 D = none) (p : LcR R H1 D n H) (s : Same H H4) (hn : n < 100000) (r : R n y H4) :
    ∃ acc, H4 D = some (.lst acc) ∧ acc.length < sizeLine ∧ LcR R H1 D (n + 1) (upd H4 D (.lst (acc ++ [y]))) := by
  obtain ⟨s1, ys, h, l, g⟩ := p
  have h4 := s _ _ h
  have kt : KT K H4 (upd H4 D (.lst (ys ++ [y]))) := But.ktL But.upd h4
  refine ⟨ys, h4, by rw [l]; exact Nat.lt_of_lt_of_le hn (by decide), fun b o e => by rw [upd_ne (ne_of_none e hD)]; exact s _ _ (s1 _ _ e), ys ++ [y], upd_same, by simp [l], fun i z e => ?_⟩
  by_cases c : i < ys.length
  · rw [List.getElem?_append_left c] at e
    exact mono _ _ _ _ ((Same.kt s).tr kt) (g i z e)
  · have hlt := (List.getElem?_eq_some_iff.mp e).1
    rw [List.length_append, List.length_singleton] at hlt
    have ei : i = ys.length := by omega
    subst ei
    rw [List.getElem?_append_right (Nat.le_refl _), Nat.sub_self] at e
    cases e
    rw [l]; exact mono _ _ _ _ kt r
end
section
variable {K : PySem.W.Frag} {a b : Addr} {xs ys : List V} {te : TE} {tt : TT} {g : TG} {vs : List Nat} {i j : Nat} {σ : St} {H1 : Hp} {D : Addr} {Qd : Hp → Prop}
theorem lcR_tup (R : Nat → V → Hp → Prop) (mono : ∀ n y H H', KT K H H' → R n y H → R n y H') (hl : SqT K H1 a xs) (hD : H1 D = none) (hn : xs.length ≤ 100000) (hw : ∀ x, wipe ((wipe σ [j]).set j x) [j] = wipe σ [j])
    (hs : ∀ (n : Nat) (x : V) (H : Hp) (Q : VK), xs[n]? = some x → Same H1 H → (∀ y H4, Same H H4 → R n y H4 → Q y H4) → te ((wipe σ [j]).set j (some x)) H Q) (hd : ∀ H, LcR R H1 D xs.length H → Qd H) :
    ∃ W : Nat → Nat → Hp → Prop, (∃ m, W 0 m (upd H1 D (.lst []))) ∧ ∀ i m H, W i m H →
      ((Itt K a).stop i H ∧ Qd H) ∨ ((Itt K a).go i H ∧ ∃ Nx : Hp → Prop, (∀ H', Nx H' → ∃ m', m' < m ∧ W (i + 1) m' H') ∧ ∀ x H', (Itt K a).yld i H x H' → gName j x (wipe σ [j]) H' fun σ2 H2 => wipe σ2 [j] = wipe σ [j] ∧ tYes σ2 H2 fun b H3 =>
        if b = true then te σ2 H3 fun y H4 => ∃ acc, H4 D = some (.lst acc) ∧ acc.length < sizeLine ∧ Nx (upd H4 D (.lst (acc ++ [y]))) else Nx H3) :=
  lc_tup (K := K) (a := a) (xs := xs) (LcR R H1 D) (LcR.start hD) (fun i H _ p => Same.tup p.1 hl)
    (fun n x H e p => ⟨hw _, yes_if (hs n x H _ e p.1 fun y H4 s4 r => LcR.turn mono hD p s4 (by have := (List.getElem?_eq_some_iff.mp e).1; omega) r)⟩) hd
/-- a list of sums, told as a row -/
def RSum (K : PySem.W.Frag) (F : Nat → List Int) : Nat → V → Hp → Prop := fun n y H => ∃ t : Addr, y = .ref t ∧ SqT K H t ((F n).map V.int)
theorem RSum.mono {F : Nat → List Int} : ∀ n y H H', KT K H H' → RSum K F n y H → RSum K F n y H' := fun n y H H' k ⟨t, e, h⟩ => ⟨t, e, k _ _ h⟩
theorem RSum.its {F : Nat → List Int} {n : Nat} {H : Hp} (p : LcR (RSum K F) H1 D n H) {r : List (List Int)} (hr : r.length = n) (hF : ∀ i ns, r[i]? = some ns → F i = ns) : ∃ ys, H D = some (.lst ys) ∧ Its K H ys r := by
  obtain ⟨_, ys, h, l, g⟩ := p
  refine ⟨ys, h, by omega, fun i ns e => ?_⟩
  have hi : i < ys.length := by have := (List.getElem?_eq_some_iff.mp e).1; omega
  obtain ⟨t, e1, s⟩ := g i _ (List.getElem?_eq_getElem hi)
  rw [hF i ns e] at s
  exact ⟨t, by rw [List.getElem?_eq_getElem hi, e1], s⟩
end
end L2.Lw

set_option Elab.async false
set_option linter.all false
namespace L2.Lw
open PySem PySem.Spec PyProof.Rows
/-! ### sequences, multiplied like sums of powers -/
abbrev Sq := Nat → Int
def tl (f : Sq) : Sq := fun k => f (k + 1)
def cv (f : Sq) (g : Sq) : Nat → Int
  | 0 => f 0 * g 0
  | k + 1 => f 0 * g (k + 1) + cv (tl f) g k
theorem cv_zero (f g : Sq) : cv f g 0 = f 0 * g 0 := by rw [cv]
theorem cv_succ (f g : Sq) (k : Nat) : cv f g (k + 1) = f 0 * g (k + 1) + cv (tl f) g k := by rw [cv]
theorem cv_succ' (g : Sq) : ∀ (k : Nat) (f : Sq), cv f g (k + 1) = cv f (tl g) k + f (k + 1) * g 0
  | 0, f => by rw [cv_succ, cv_zero, cv_zero]; rfl
  | k + 1, f => by rw [cv_succ, cv_succ' g k, cv_succ, Int.add_assoc]; rfl
theorem cv_comm (f g : Sq) : ∀ k, cv f g k = cv g f k := by
  intro k
  induction k generalizing f with
  | zero => rw [cv_zero, cv_zero, Int.mul_comm]
  | succ k ih => rw [cv_succ, cv_succ', ih, Int.mul_comm (f 0), Int.add_comm]
theorem cv_addl (f f' g : Sq) : ∀ k, cv (fun i => f i + f' i) g k = cv f g k + cv f' g k := by
  intro k
  induction k generalizing f f' with
  | zero => rw [cv_zero, cv_zero, cv_zero, Int.add_mul]
  | succ k ih =>
    rw [cv_succ, cv_succ, cv_succ, Int.add_mul]
    have := ih (tl f) (tl f')
    show _ + cv (fun i => tl f i + tl f' i) g k = _
    rw [this]; omega
theorem cv_smul (c : Int) (f g : Sq) : ∀ k, cv (fun i => c * f i) g k = c * cv f g k := by
  intro k
  induction k generalizing f with
  | zero => rw [cv_zero, cv_zero, Int.mul_assoc]
  | succ k ih =>
    rw [cv_succ, cv_succ]
    show _ + cv (fun i => c * tl f i) g k = _
    rw [ih (tl f), Int.mul_add, Int.mul_assoc]
theorem cv_addr (f g g' : Sq) (k : Nat) : cv f (fun i => g i + g' i) k = cv f g k + cv f g' k := by
  rw [cv_comm, cv_addl, cv_comm g, cv_comm g']
theorem cv_assoc (g h : Sq) : ∀ (k : Nat) (f : Sq), cv (cv f g) h k = cv f (cv g h) k
  | 0, f => by rw [cv_zero, cv_zero, cv_zero, cv_zero, Int.mul_assoc]
  | k + 1, f => by
    rw [cv_succ, cv_succ]
    have e : tl (cv f g) = fun i => f 0 * tl g i + cv (tl f) g i := by funext i; exact cv_succ f g i
    rw [e, cv_addl, cv_smul, cv_assoc g h k (tl f), cv_zero, cv_succ g h, Int.mul_add, Int.mul_assoc, Int.add_assoc]
/-! ### by p -/
def M (p : Int) (f g : Sq) : Prop := ∀ k, p ∣ f k - g k
theorem M.rfl' {p : Int} {f : Sq} : M p f f := fun k => by rw [Int.sub_self]; exact Int.dvd_zero p
theorem M.of {p : Int} {f g : Sq} (h : ∀ k, f k = g k) : M p f g := fun k => by rw [h k, Int.sub_self]; exact Int.dvd_zero p
theorem M.tr {p : Int} {f g h : Sq} (a : M p f g) (b : M p g h) : M p f h := fun k => by
  have := Int.dvd_add (a k) (b k)
  rwa [show f k - g k + (g k - h k) = f k - h k by omega] at this
theorem M.add {p : Int} {f g f' g' : Sq} (a : M p f g) (b : M p f' g') : M p (fun k => f k + f' k) (fun k => g k + g' k) := fun k => by
  have := Int.dvd_add (a k) (b k)
  rwa [show f k - g k + (f' k - g' k) = f k + f' k - (g k + g' k) by omega] at this
theorem M.sub {p : Int} {f g f' g' : Sq} (a : M p f g) (b : M p f' g') : M p (fun k => f k - f' k) (fun k => g k - g' k) := fun k => by
  have := Int.dvd_sub (a k) (b k)
  rwa [show f k - g k - (f' k - g' k) = f k - f' k - (g k - g' k) by omega] at this
theorem M.smul {p : Int} {f g : Sq} (c : Int) (a : M p f g) : M p (fun k => c * f k) (fun k => c * g k) := fun k => by
  have := Int.dvd_mul_of_dvd_right (a := p) (b := c) (a k)
  rwa [Int.mul_sub] at this
theorem dvd_mul_sub {p a b c d : Int} (h : p ∣ a - b) (k : p ∣ c - d) : p ∣ a * c - b * d := by
  have e : a * c - b * d = (a - b) * c + b * (c - d) := by rw [Int.sub_mul, Int.mul_sub]; omega
  rw [e]; exact Int.dvd_add (Int.dvd_mul_of_dvd_left h) (Int.dvd_mul_of_dvd_right k)
theorem M.cv {p : Int} {f g f' g' : Sq} (a : M p f g) (b : M p f' g') : M p (cv f f') (cv g g') := by
  intro k
  induction k generalizing f g with
  | zero => rw [cv_zero, cv_zero]; exact dvd_mul_sub (a 0) (b 0)
  | succ k ih =>
    rw [cv_succ, cv_succ]
    have h1 := dvd_mul_sub (a 0) (b (k + 1))
    have h2 := ih (f := tl f) (g := tl g) (fun i => a (i + 1))
    have := Int.dvd_add h1 h2
    rwa [show f 0 * f' (k + 1) - g 0 * g' (k + 1) + (L2.Lw.cv (tl f) f' k - L2.Lw.cv (tl g) g' k) = f 0 * f' (k + 1) + L2.Lw.cv (tl f) f' k - (g 0 * g' (k + 1) + L2.Lw.cv (tl g) g' k) by omega] at this
/-! ### sums of finitely many -/
def Fin' (n : Nat) (f : Sq) : Prop := ∀ k, n ≤ k → f k = 0
theorem Fin'.tl {n : Nat} {f : Sq} (h : Fin' (n + 1) f) : Fin' n (tl f) := fun k hk => h (k + 1) (by omega)
theorem cv_null {f g : Sq} (h : ∀ k, f k = 0) : ∀ k, cv f g k = 0 := by
  intro k
  induction k generalizing f with
  | zero => rw [cv_zero, h, Int.zero_mul]
  | succ k ih => rw [cv_succ, h, Int.zero_mul, ih (f := tl f) (fun i => h (i + 1)), Int.add_zero]
theorem cv_out {g : Sq} : ∀ (n m : Nat) {f : Sq}, Fin' n f → Fin' m g → Fin' (n + m) (cv f g)
  | 0, m, f, hf, hg, k, _ => cv_null (fun i => hf i (Nat.zero_le _)) k
  | n + 1, m, f, hf, hg, 0, hk => by omega
  | n + 1, m, f, hf, hg, k + 1, hk => by
    rw [cv_succ, cv_out n m hf.tl hg k (by omega), hg (k + 1) (by omega), Int.mul_zero, Int.add_zero]
/-- d divides f by p -/
def Dv (p : Int) (d f : Sq) : Prop := ∃ (q : Sq) (n : Nat), Fin' n q ∧ M p (cv q d) f
theorem Dv.mod {p : Int} {d f g : Sq} (h : Dv p d f) (m : M p f g) : Dv p d g := by
  obtain ⟨q, n, hq, e⟩ := h; exact ⟨q, n, hq, e.tr m⟩
theorem Dv.add {p : Int} {d f g : Sq} (h : Dv p d f) (k : Dv p d g) : Dv p d (fun i => f i + g i) := by
  obtain ⟨q, n, hq, e⟩ := h; obtain ⟨q', n', hq', e'⟩ := k
  refine ⟨fun i => q i + q' i, max n n', fun i hi => by show q i + q' i = 0; rw [hq i (by omega), hq' i (by omega)]; rfl, ?_⟩
  exact (M.of (fun k => cv_addl q q' d k)).tr (e.add e')
theorem Dv.mul {p : Int} {d f : Sq} (h : Dv p d f) {u : Sq} {m : Nat} (hu : Fin' m u) : Dv p d (cv u f) := by
  obtain ⟨q, n, hq, e⟩ := h
  refine ⟨cv u q, m + n, cv_out m n hu hq, ?_⟩
  exact (M.of (fun k => cv_assoc q d k u)).tr (M.rfl'.cv e)
/-- a number as a sequence -/
def one (c : Int) : Sq := fun i => if i = 0 then c else 0
theorem one_fin (c : Int) : Fin' 1 (one c) := fun i hi => if_neg (by omega)
theorem cv_one (c : Int) (g : Sq) : ∀ k, cv (one c) g k = c * g k
  | 0 => by rw [cv_zero]; rfl
  | k + 1 => by
    have h : cv (tl (one c)) g k = 0 := cv_null (f := tl (one c)) (fun i => by show (if i + 1 = 0 then c else 0) = 0; rw [if_neg (by omega)]) k
    rw [cv_succ, h, Int.add_zero]; rfl
theorem Dv.refl (p : Int) (d : Sq) : Dv p d d := ⟨one 1, 1, one_fin 1, M.of fun k => by rw [cv_one, Int.one_mul]⟩
theorem Dv.smul {p : Int} {d f : Sq} (c : Int) (h : Dv p d f) : Dv p d (fun i => c * f i) := (h.mul (one_fin c)).mod (M.of fun k => cv_one c f k)
theorem Dv.sub {p : Int} {d f g : Sq} (h : Dv p d f) (k : Dv p d g) : Dv p d (fun i => f i - g i) :=
  (h.add (k.smul (-1))).mod (M.of fun i => by show f i + -1 * g i = f i - g i; omega)
end L2.Lw

set_option Elab.async false
set_option linter.all false
set_option maxRecDepth 100000
namespace L2.Lw
open PySem PySem.Spec PyProof.Rows
/-- residues of p -/
def Res (p : Int) (ns : List Int) : Prop := ∀ x ∈ ns, 0 ≤ x ∧ x < p
theorem Res.trim {p : Int} {ns : List Int} (h : Res p ns) : Res p (trim ns) := fun x hx => h x (trim_mem hx)
theorem Res.map {p : Int} {ns : List Int} (f : Int → Int) (hp : 0 < p) : Res p (ns.map fun x => f x % p) := fun x hx => by
  obtain ⟨y, _, rfl⟩ := List.mem_map.mp hx
  exact ⟨Int.emod_nonneg _ (by omega), Int.emod_lt_of_pos _ hp⟩
theorem Res.getD {p : Int} {ns : List Int} (h : Res p ns) (hp : 0 < p) (k : Nat) : 0 ≤ ns.getD k 0 ∧ ns.getD k 0 < p := by
  rw [List.getD_eq_getElem?_getD]
  cases e : ns[k]? with
  | none => exact ⟨Int.le_refl _, hp⟩
  | some z => exact h z (List.mem_of_getElem? e)
def scaleL (ns : List Int) (n p : Int) : List Int := trim (ns.map fun x => x * n % p)
def addL (a b : List Int) (p : Int) : List Int := trim ((List.range (max a.length b.length)).map fun k => (a.getD k 0 + b.getD k 0) % p)
theorem ext_getD {l m : List Int} (h : l.length = m.length) (e : ∀ k, k < l.length → l.getD k 0 = m.getD k 0) : l = m := by
  apply List.ext_getElem h
  intro n h1 h2
  have := e n h1
  rw [List.getD_eq_getElem?_getD, List.getD_eq_getElem?_getD, List.getElem?_eq_getElem h1, List.getElem?_eq_getElem h2] at this
  exact this
theorem getD_out {l : List Int} {k : Nat} (h : l.length ≤ k) : l.getD k 0 = 0 := by rw [List.getD_eq_getElem?_getD, List.getElem?_eq_none h]; rfl
/-! ### multiplying, place by place -/
def bump (L : List Int) (k : Nat) (v : Int) : List Int := L.set k (L.getD k 0 + v)
def rowU (L : List Int) (i : Nat) (x : Int) (bs : List Int) (j : Nat) : List Int := (List.range j).foldl (fun L j => bump L (i + j) (x * bs.getD j 0)) L
def raw (as bs : List Int) (i : Nat) : List Int := (List.range i).foldl (fun L i => rowU L i (as.getD i 0) bs bs.length) (List.replicate (as.length + bs.length) 0)
def mulL (as bs : List Int) (p : Int) : List Int := trim ((raw as bs as.length).map (· % p))
/-- what was new and is then changed leaves all that was there -/
theorem But.old {H H1 H2 : Hp} {b : Addr} (n : H b = none) (s : Same H H1) (k : But b H1 H2) : Same H H2 := fun c o e => k c o (s c o e) (ne_of_none e n)
def sq (l : List Int) : Sq := fun k => l.getD k 0
theorem trim_short : ∀ (l : List Int) (m : Nat), (∀ k, m ≤ k → l.getD k 0 = 0) → (trim l).length ≤ m
  | [], m, _ => Nat.zero_le _
  | x :: r, m, h => by
    rw [trim_cons]
    cases m with
    | zero =>
      have h1 : trim r = [] := List.length_eq_zero_iff.mp (Nat.le_zero.mp (trim_short r 0 fun k _ => by have := h (k + 1) (Nat.zero_le _); rwa [List.getD_cons_succ] at this))
      rw [if_pos ⟨h 0 (Nat.le_refl _), h1⟩]; exact Nat.le_refl _
    | succ m =>
      have h1 := trim_short r m fun k hk => by have := h (k + 1) (by omega); rwa [List.getD_cons_succ] at this
      split
      · exact Nat.zero_le _
      · rw [List.length_cons]; omega
theorem res_eq {p a b : Int} (ha : 0 ≤ a ∧ a < p) (hb : 0 ≤ b ∧ b < p) (h : p ∣ a - b) : a = b := by
  have h1 := Int.emod_eq_emod_iff_emod_sub_eq_zero.mpr (Int.emod_eq_zero_of_dvd h)
  rwa [Int.emod_eq_of_lt ha.1 ha.2, Int.emod_eq_of_lt hb.1 hb.2] at h1
theorem list_eq {p : Int} {a b : List Int} (hp : 0 < p) (ra : Res p a) (rb : Res p b) (ta : trim a = a) (tb : trim b = b) (h : M p (sq a) (sq b)) : a = b := by
  have e : ∀ k, a.getD k 0 = b.getD k 0 := fun k => res_eq (ra.getD hp k) (rb.getD hp k) (h k)
  have l1 := trim_short a b.length fun k hk => by rw [e k]; exact getD_out hk
  have l2 := trim_short b a.length fun k hk => by rw [← e k]; exact getD_out hk
  rw [ta] at l1; rw [tb] at l2
  exact ext_getD (by omega) fun k _ => e k
/-- sums -/
def sm : Nat → Sq → Int
  | 0, _ => 0
  | n + 1, F => sm n F + F n
/-! ### the inverse -/
def invN (x p : Int) : Nat → Int
  | 0 => 1
  | n + 1 => invN x p n * x % p
def invL (x p : Int) : Int := invN x p (p - 2).toNat
/-- one term -/
def ms (s : Nat) (w : Int) : Sq := fun k => if k = s then w else 0
/-! ### dividing -/
def subStep (L : List Int) (s : Nat) (w : Int) (bs : List Int) (p : Int) : Nat → List Int
  | 0 => L
  | j + 1 => (subStep L s w bs p j).set (s + j) (((subStep L s w bs p j).getD (s + j) 0 - w * bs.getD j 0) % p)
def dw (r bs : List Int) (p : Int) (s : Nat) : Int := r.getD (s + (bs.length - 1)) 0 * invL (bs.getD (bs.length - 1) 0) p % p
def divS (as bs : List Int) (p : Int) (n : Nat) : Nat → List Int × List Int
  | 0 => (List.replicate n 0, as)
  | i + 1 => ((divS as bs p n i).1.set (n - 1 - i) (dw (divS as bs p n i).2 bs p (n - 1 - i)), subStep (divS as bs p n i).2 (n - 1 - i) (dw (divS as bs p n i).2 bs p (n - 1 - i)) bs p bs.length)
def nSt (as bs : List Int) : Nat := as.length - (bs.length - 1)
def divQ (as bs : List Int) (p : Int) : List Int := trim (divS as bs p (nSt as bs) (nSt as bs)).1
theorem Res.set {p : Int} {l : List Int} (h : Res p l) (i : Nat) {z : Int} (hz : 0 ≤ z ∧ z < p) : Res p (l.set i z) := fun x hx => by
  rcases List.mem_or_eq_of_mem_set hx with y | y
  · exact h x y
  · rw [y]; exact hz
theorem M.nil {p : Int} {a : List Int} (hp : 0 < p) (ra : Res p a) (ta : trim a = a) (h : M p (sq a) (fun _ => 0)) : a = [] :=
  list_eq hp ra (fun x hx => absurd hx (by simp)) ta rfl (h.tr (M.of fun k => rfl))
def lowL (u q ru : List Int) (p : Int) : List Int := addL u (scaleL (mulL q ru p) (-1) p) p
end L2.Lw

set_option Elab.async false
set_option linter.all false
set_option maxRecDepth 100000
namespace L2.Lw
open PySem PySem.Spec PyProof.Rows
/-! ### tables: rows of sums, what follows from them, leads -/
abbrev Rw := List (List Int)
abbrev Vc := Nat → Sq
def rq (r : Rw) : Vc := fun e => sq (r.getD e [])
def MV (p : Int) (F G : Vc) : Prop := ∀ e, M p (F e) (G e)
theorem MV.rfl' {p : Int} {F : Vc} : MV p F F := fun _ => M.rfl'
theorem MV.of {p : Int} {F G : Vc} (h : ∀ e k, F e k = G e k) : MV p F G := fun e => M.of (h e)
theorem MV.tr {p : Int} {F G H : Vc} (a : MV p F G) (b : MV p G H) : MV p F H := fun e => (a e).tr (b e)
theorem MV.add {p : Int} {F G F' G' : Vc} (a : MV p F G) (b : MV p F' G') : MV p (fun e k => F e k + F' e k) (fun e k => G e k + G' e k) := fun e => (a e).add (b e)
theorem MV.sub {p : Int} {F G F' G' : Vc} (a : MV p F G) (b : MV p F' G') : MV p (fun e k => F e k - F' e k) (fun e k => G e k - G' e k) := fun e => (a e).sub (b e)
theorem MV.mul {p : Int} {F G : Vc} {c d : Sq} (m : M p c d) (a : MV p F G) : MV p (fun e => cv c (F e)) (fun e => cv d (G e)) := fun e => M.cv m (a e)
/-- what follows -/
inductive Spn (p : Int) (T : Rw → Prop) : Vc → Prop
  | nil {F : Vc} : MV p F (fun _ _ => 0) → Spn p T F
  | step {F G : Vc} {r : Rw} {c : Sq} {n : Nat} : T r → Fin' n c → Spn p T G → MV p F (fun e k => G e k + cv c (rq r e) k) → Spn p T F
theorem Spn.eqv {p : Int} {T : Rw → Prop} {F G : Vc} (h : Spn p T F) (m : MV p G F) : Spn p T G := by
  cases h with
  | nil h => exact .nil (m.tr h)
  | step a b c d => exact .step a b c (m.tr d)
theorem Spn.add {p : Int} {T : Rw → Prop} {F G : Vc} (h : Spn p T F) (g : Spn p T G) : Spn p T (fun e k => F e k + G e k) := by
  induction h with
  | nil h => exact g.eqv (((h.add MV.rfl').tr (MV.of fun e k => Int.zero_add _)))
  | step a b c d ih => exact .step a b ih ((d.add MV.rfl').tr (MV.of fun e k => by omega))
theorem Spn.mul {p : Int} {T : Rw → Prop} {F : Vc} {c : Sq} {n : Nat} (hc : Fin' n c) (h : Spn p T F) : Spn p T (fun e => cv c (F e)) := by
  induction h with
  | nil h => exact .nil ((MV.mul M.rfl' h).tr (MV.of fun e k => by rw [cv_comm]; exact cv_null (fun _ => rfl) k))
  | step a b g d ih => exact .step a (cv_out _ _ hc b) ih ((MV.mul M.rfl' d).tr (MV.of fun e k => by rw [cv_addr, ← cv_assoc]))
theorem Spn.mem {p : Int} {T : Rw → Prop} {r : Rw} (h : T r) : Spn p T (rq r) :=
  .step (c := one 1) h (one_fin 1) (.nil (F := fun _ _ => 0) MV.rfl') (MV.of fun e k => by rw [cv_one]; omega)
theorem Spn.trans {p : Int} {T T' : Rw → Prop} (h : ∀ r, T r → Spn p T' (rq r)) {F : Vc} (g : Spn p T F) : Spn p T' F := by
  induction g with
  | nil m => exact .nil m
  | step a b c d ih => exact (ih.add ((h _ a).mul b)).eqv d
theorem Spn.neg {p : Int} {T : Rw → Prop} {F : Vc} (h : Spn p T F) : Spn p T (fun e k => - F e k) :=
  (Spn.mul (one_fin (-1)) h).eqv (MV.of fun e k => by rw [cv_one]; omega)
theorem Spn.sub {p : Int} {T : Rw → Prop} {F G : Vc} (h : Spn p T F) (g : Spn p T G) : Spn p T (fun e k => F e k - G e k) := (h.add g.neg).eqv (MV.of fun e k => by omega)
/-- the same follows from both -/
def SameS (p : Int) (T T' : Rw → Prop) : Prop := ∀ F, Spn p T F ↔ Spn p T' F
theorem SameS.of {p : Int} {T T' : Rw → Prop} (h : ∀ r, T r → Spn p T' (rq r)) (g : ∀ r, T' r → Spn p T (rq r)) : SameS p T T' := fun _ => ⟨Spn.trans h, Spn.trans g⟩
theorem SameS.tr {p : Int} {T T' T'' : Rw → Prop} (h : SameS p T T') (g : SameS p T' T'') : SameS p T T'' := fun F => (h F).trans (g F)
/-! ### orders of places -/
structure Od where
  A : Nat → Nat
  B : Nat → Nat
def Od.lt (o : Od) (k e k' e' : Nat) : Prop := o.A e < o.A e' ∨ (o.A e = o.A e' ∧ (k + o.B e < k' + o.B e' ∨ (k + o.B e = k' + o.B e' ∧ e < e')))
theorem Od.irr {o : Od} {k e : Nat} : ¬ o.lt k e k e := by unfold Od.lt; omega
theorem Od.tr {o : Od} {k e k' e' k2 e2 : Nat} (h : o.lt k e k' e') (g : o.lt k' e' k2 e2) : o.lt k e k2 e2 := by unfold Od.lt at *; omega
theorem Od.tot {o : Od} {k e k' e' : Nat} (h : e ≠ e') : o.lt k e k' e' ∨ o.lt k' e' k e := by unfold Od.lt; omega
theorem Od.same {o : Od} {k k' e : Nat} : o.lt k e k' e ↔ k < k' := by unfold Od.lt; omega
structure Top (p : Int) (o : Od) (F : Vc) (k e : Nat) : Prop where
  nz : ¬ p ∣ F e k
  hi : ∀ k' e', o.lt k e k' e' → p ∣ F e' k'
theorem Top.eqv {p : Int} {o : Od} {F G : Vc} {k e : Nat} (h : Top p o F k e) (m : MV p F G) : Top p o G k e :=
  ⟨fun z => h.nz (by have := m e k; exact (Int.dvd_iff_dvd_of_dvd_sub this).mpr z), fun k' e' l => (Int.dvd_iff_dvd_of_dvd_sub (m e' k')).mp (h.hi k' e' l)⟩
theorem Top.uniq {p : Int} {o : Od} {F : Vc} {k e k' e' : Nat} (h : Top p o F k e) (g : Top p o F k' e') : k = k' ∧ e = e' := by
  by_cases c : e = e'
  · subst c
    refine ⟨?_, rfl⟩
    rcases Nat.lt_trichotomy k k' with l | l | l
    · exact absurd (h.hi _ _ (Od.same.mpr l)) g.nz
    · exact l
    · exact absurd (g.hi _ _ (Od.same.mpr l)) h.nz
  · rcases Od.tot (o := o) (k := k) (k' := k') c with l | l
    · exact absurd (h.hi _ _ l) g.nz
    · exact absurd (g.hi _ _ l) h.nz
theorem Top.add {p : Int} {o : Od} {F G : Vc} {k e k' e' : Nat} (h : Top p o F k e) (g : Top p o G k' e') (l : o.lt k e k' e') : Top p o (fun e k => F e k + G e k) k' e' := by
  refine ⟨fun z => g.nz ?_, fun k2 e2 l2 => Int.dvd_add (h.hi _ _ (Od.tr l l2)) (g.hi _ _ l2)⟩
  have z1 := h.hi _ _ l
  have := Int.dvd_sub z z1
  rwa [show F e' k' + G e' k' - F e' k' = G e' k' by omega] at this
theorem Top.none {p : Int} {o : Od} {F : Vc} {k e : Nat} (h : Top p o F k e) : ¬ MV p F (fun _ _ => 0) := fun z => h.nz (by have := z e k; simpa using this)
/-! ### rows and their leads -/
def GR (p : Int) (w : Nat) (r : Rw) : Prop := r.length = w ∧ ∀ ns ∈ r, Res p ns ∧ trim ns = ns
theorem GR.at {p : Int} {w : Nat} {r : Rw} (h : GR p w r) (e : Nat) : Res p (r.getD e []) ∧ trim (r.getD e []) = r.getD e [] := by
  rw [List.getD_eq_getElem?_getD]
  cases q : r[e]? with
  | none => exact ⟨fun _ z => absurd z (by simp), rfl⟩
  | some ns => exact h.2 ns (List.mem_of_getElem? q)
theorem GR.out {p : Int} {w : Nat} {r : Rw} (h : GR p w r) {e : Nat} (he : w ≤ e) : r.getD e [] = [] := by
  rw [List.getD_eq_getElem?_getD, List.getElem?_eq_none (by rw [h.1]; exact he)]; rfl
structure Ld (o : Od) (r : Rw) (e : Nat) : Prop where
  ne : r.getD e [] ≠ []
  mx : ∀ f, f ≠ e → r.getD f [] ≠ [] → o.lt (r.getD f []).length f (r.getD e []).length e
theorem Ld.in {p : Int} {w : Nat} {o : Od} {r : Rw} {e : Nat} (g : GR p w r) (h : Ld o r e) : e < w := by
  by_cases c : e < w
  · exact c
  · exact absurd (g.out (by omega)) h.ne
theorem Ld.uniq {o : Od} {r : Rw} {e f : Nat} (h : Ld o r e) (g : Ld o r f) : e = f := by
  by_cases c : e = f
  · exact c
  · exact absurd (Od.tr (h.mx f (Ne.symm c) g.ne) (g.mx e c h.ne)) Od.irr
/-- rows with unlike leads, each with its lead -/
structure Bas (p : Int) (o : Od) (w : Nat) (B : List (Nat × Rw)) : Prop where
  ok : ∀ t ∈ B, GR p w t.2 ∧ Ld o t.2 t.1
  nd : (B.map (·.1)).Nodup
abbrev In (B : List (Nat × Rw)) : Rw → Prop := fun r => r ∈ B.map (·.2)
def o0 : Od := ⟨fun _ => 0, fun _ => 0⟩
end L2.Lw

set_option Elab.async false
set_option linter.all false
set_option maxRecDepth 100000
namespace L2.Lw
open PySem PySem.Spec PyProof.Rows
def lsR (p : Int) (r b : Rw) (q : List Int) : Rw := List.zipWith (fun x y => lowL x q y p) r b
def les (p : Int) (r b : Rw) (e : Nat) : Rw := lsR p r b (divQ (r.getD e []) (b.getD e []) p)
section
variable {p : Int} {w : Nat} {r b : Rw} {e : Nat}
end
end L2.Lw

set_option Elab.async false
set_option linter.all false
set_option maxRecDepth 100000
namespace L2.Lw
open PySem PySem.Spec PyProof.Rows
def KeyLe (o : Od) (L : Nat) (r : Rw) : Prop := ∀ f, r.getD f [] ≠ [] → (r.getD f []).length + o.B f ≤ L
theorem KeyLe.len {o : Od} {L : Nat} {r : Rw} (h : KeyLe o L r) (f : Nat) : (r.getD f []).length ≤ L := by
  by_cases c : r.getD f [] = []
  · rw [c]; exact Nat.zero_le _
  · have := h f c; omega
def rkR (o : Od) (w : Nat) (r : Rw) (e : Nat) : Nat := ((r.getD e []).length + o.B e) * w + e
/-- all of it below m -/
def Bel (o : Od) (w : Nat) (r : Rw) (m : Nat) : Prop := ∀ f, r.getD f [] ≠ [] → rkR o w r f < m
section
variable {p : Int} {w cut W : Nat} {r b : Rw} {e : Nat}
end
/-! ### the rows by their leads, as a dict has them -/
def putB (B : List (Nat × Rw)) (e : Nat) (r : Rw) : List (Nat × Rw) := if (B.any fun t => decide (t.1 = e)) = true then B.map (fun t => if t.1 = e then (t.1, r) else t) else B ++ [(e, r)]
def valB (B : List (Nat × Rw)) (e : Nat) : Option Rw := (B.find? fun t => decide (t.1 = e)).map (·.2)
theorem putB_new {B : List (Nat × Rw)} {e : Nat} {r : Rw} (h : e ∉ B.map (·.1)) : putB B e r = B ++ [(e, r)] := by
  unfold putB
  rw [if_neg fun z => by
    obtain ⟨t, ht, e1⟩ := List.any_eq_true.mp z
    exact h (List.mem_map.mpr ⟨t, ht, by simpa using e1⟩)]
section
variable {p : Int} {w : Nat} {o : Od} {B : List (Nat × Rw)} {e : Nat} {r b : Rw}
theorem Bas.add (h : Bas p o w B) (he : e ∉ B.map (·.1)) (g : GR p w r) (l : Ld o r e) : Bas p o w (B ++ [(e, r)]) := by
  refine ⟨fun t ht => ?_, ?_⟩
  · rcases List.mem_append.mp ht with h1 | h1
    · exact h.ok t h1
    · rw [List.mem_singleton.mp h1]; exact ⟨g, l⟩
  · rw [List.map_append, List.nodup_append]
    refine ⟨h.nd, by simp, fun a ha c hc z => he ?_⟩
    have hc : c = e := by simpa using hc
    rw [← hc, ← z]; exact ha
end
section
variable {p : Int} {w : Nat} {r b : Rw} {e : Nat} {B : List (Nat × Rw)}
end
end L2.Lw

set_option Elab.async false
set_option linter.all false
set_option maxRecDepth 100000
namespace L2.Lw
open PySem PySem.Spec PyProof.Rows
/-! ### one row is settled among others -/
structure StI (p : Int) (w L : Nat) (T : Rw → Prop) (B : List (Nat × Rw)) (r : Rw) (N : Nat) : Prop where
  bas : Bas p o0 w B
  kl : ∀ t ∈ B, KeyLe o0 L t.2
  gr : GR p w r
  kr : KeyLe o0 L r
  same : SameS p (fun x => In B x ∨ x = r) T
  bel : Bel o0 w r N
section
variable {p : Int} {w L N : Nat} {T : Rw → Prop} {B : List (Nat × Rw)} {r b : Rw} {e : Nat}
theorem StI.new (h : StI p w L T B r N) (hr : Ld o0 r e) (he : e ∉ B.map (·.1)) : Bas p o0 w (putB B e r) ∧ (∀ t ∈ putB B e r, KeyLe o0 L t.2) ∧ SameS p (In (putB B e r)) T ∧ (putB B e r).length = B.length + 1 := by
  rw [putB_new he]
  refine ⟨h.bas.add he h.gr hr, fun t ht => ?_, SameS.tr (SameS.of (fun x hx => Spn.mem ?_) (fun x hx => Spn.mem ?_)) h.same, by simp⟩
  · rcases List.mem_append.mp ht with h1 | h1
    · exact h.kl t h1
    · rw [List.mem_singleton.mp h1]; exact h.kr
  · have hx : x ∈ (B ++ [(e, r)]).map (·.2) := hx
    rw [List.map_append] at hx
    rcases List.mem_append.mp hx with h1 | h1
    · exact .inl h1
    · exact .inr (by simpa using h1)
  · show x ∈ (B ++ [(e, r)]).map (·.2)
    rw [List.map_append]
    rcases hx with h1 | h1
    · exact List.mem_append_left _ h1
    · rw [h1]; exact List.mem_append_right _ (by simp)
theorem StI.start (bas : Bas p o0 w B) (kl : ∀ t ∈ B, KeyLe o0 L t.2) (gr : GR p w r) (kr : KeyLe o0 L r) : StI p w L (fun x => In B x ∨ x = r) B r (L * w + w) :=
  ⟨bas, kl, gr, kr, fun _ => Iff.rfl, fun f hf => by
    have fw : f < w := by
      by_cases c : f < w
      · exact c
      · exact absurd (gr.out (by omega)) hf
    have := Nat.mul_le_mul_right w (kr f hf)
    unfold rkR
    omega⟩
end
end L2.Lw

set_option Elab.async false
set_option linter.all false
set_option maxRecDepth 100000
namespace L2.Lw
open PySem PySem.Spec PyProof.Rows
/-! ### a dict of rows by their leads -/
abbrev kE (e : Nat) : Key := Sum.inl (e : Int)
inductive Pd (K : PySem.W.Frag) (H : Hp) : List (Key × V) → List (Nat × Rw) → Prop
  | nil : Pd K H [] []
  | cons {kvs : List (Key × V)} {B : List (Nat × Rw)} {t : Addr} {e : Nat} {b : Rw} : RA K H t b → Pd K H kvs B → Pd K H ((kE e, .ref t) :: kvs) ((e, b) :: B)
section
variable {K : PySem.W.Frag} {H H' : Hp} {kvs : List (Key × V)} {B : List (Nat × Rw)} {t : Addr} {e : Nat} {b r : Rw}
theorem Pd.kt (h : Pd K H kvs B) (k : KT K H H') : Pd K H' kvs B := by
  induction h with
  | nil => exact .nil
  | cons a _ ih => exact .cons (a.kt k) ih
theorem Pd.len (h : Pd K H kvs B) : kvs.length = B.length := by
  induction h with
  | nil => rfl
  | cons a _ ih => simp [ih]
theorem kE_inj {e f : Nat} (h : kE e = kE f) : e = f := by have := Sum.inl.inj h; omega
theorem Pd.get (h : Pd K H kvs B) (e : Nat) : (valB B e = none ∧ valV kvs (kE e) = none) ∨ ∃ t b, valB B e = some b ∧ valV kvs (kE e) = some (.ref t) ∧ RA K H t b := by
  induction h with
  | nil => exact .inl ⟨rfl, rfl⟩
  | @cons kvs B t f b a _ ih =>
    by_cases c : f = e
    · subst c
      refine .inr ⟨t, b, ?_, valV_pos rfl, a⟩
      simp [valB, List.find?_cons]
    · have e1 : valB ((f, b) :: B) e = valB B e := by simp [valB, List.find?_cons, c]
      have e2 : valV ((kE f, V.ref t) :: kvs) (kE e) = valV kvs (kE e) := valV_neg fun z => c (kE_inj z)
      rw [e1, e2]; exact ih
theorem Pd.mapP (h : Pd K H kvs B) (ht : RA K H t r) : Pd K H (kvs.map fun kv => if kv.1 = kE e then (kv.1, .ref t) else kv) (B.map fun u => if u.1 = e then (u.1, r) else u) := by
  induction h with
  | nil => exact .nil
  | @cons kvs B s f b a _ ih =>
    rw [List.map_cons, List.map_cons]
    by_cases c : f = e
    · subst c
      rw [if_pos rfl, if_pos rfl]; exact .cons ht ih
    · rw [if_neg (fun z => c (kE_inj z)), if_neg c]; exact .cons a ih
theorem Pd.app {kvs' : List (Key × V)} {B' : List (Nat × Rw)} (h : Pd K H kvs B) (g : Pd K H kvs' B') : Pd K H (kvs ++ kvs') (B ++ B') := by
  induction h with
  | nil => exact g
  | cons a _ ih => exact .cons a ih
theorem Pd.any (h : Pd K H kvs B) (e : Nat) : (kvs.any fun kv => decide (kv.1 = kE e)) = (B.any fun u => decide (u.1 = e)) := by
  induction h with
  | nil => rfl
  | @cons kvs B s f b a _ ih =>
    rw [List.any_cons, List.any_cons, ih]
    have : decide (kE f = kE e) = decide (f = e) := by
      by_cases c : f = e
      · rw [decide_eq_true c, decide_eq_true (by rw [c])]
      · rw [decide_eq_false c, decide_eq_false fun z => c (kE_inj z)]
    rw [this]
theorem Pd.keys (h : Pd K H kvs B) : kvs.map (·.1) = (B.map (·.1)).map kE := by
  induction h with
  | nil => rfl
  | cons a _ ih => simp [ih]
theorem Pd.at (h : Pd K H kvs B) : ∀ {i : Nat} {k : Key} {v : V}, kvs[i]? = some (k, v) → ∃ t e b, k = kE e ∧ v = .ref t ∧ B[i]? = some (e, b) ∧ RA K H t b := by
  induction h with
  | nil => intro i k v z; cases z
  | @cons kvs B s f b a _ ih =>
    intro i k v z
    cases i with
    | zero => cases z; exact ⟨s, f, b, rfl, rfl, rfl, a⟩
    | succ i => exact ih z
end
end L2.Lw

set_option Elab.async false
set_option linter.all false
set_option maxRecDepth 100000
namespace L2.Lw
open PySem PySem.Spec PyProof.Rows
end L2.Lw

set_option Elab.async false
set_option linter.all false
set_option maxRecDepth 100000
namespace L2.Lw
open PySem PySem.Spec PyProof.Rows
section
variable {X : Cx} {e : Expr} {td : TE} {p pos apos cpos : Pos}
end
end L2.Lw

set_option Elab.async false
set_option linter.all false
set_option maxRecDepth 100000
namespace L2.Lw
open PySem PySem.Spec PyProof.Rows
/-! ### sets of small numbers, filled in rising order -/
def stbl (l : List Nat) (m fg mv : Nat) (led : Bool) : SetTable := { mask := m, place := l.toArray, dummies := #[], finger := fg, led, moves := mv, plain := true }
def esl (l : List (Nat × Value)) : Array (Int × Value) := (l.map fun k => ((k.1 : Int), k.2)).toArray
/-- the rising lists of numbers below n -/
def subs : Nat → List (List Nat)
  | 0 => [[]]
  | n + 1 => subs n ++ (subs n).map (· ++ [n])
end L2.Lw

set_option Elab.async false
set_option linter.all false
set_option maxRecDepth 100000
namespace L2.Lw
open PySem PySem.Spec PyProof.Rows
theorem subs_len : ∀ (n : Nat) (l : List Nat), l ∈ subs n → l.length ≤ n
  | 0, l, h => by rw [List.mem_singleton.mp h]; exact Nat.le_refl _
  | n + 1, l, h => by
    rcases List.mem_append.mp h with h | h
    · exact Nat.le_succ_of_le (subs_len n l h)
    · obtain ⟨l', h', rfl⟩ := List.mem_map.mp h
      have := subs_len n l' h'
      rw [List.length_append, List.length_singleton]; omega
/-- a set that holds just the numbers of l, in rising order, and no more -/
def SetX (h : Heap) (a : Addr) (l : List Nat) (led : Bool) : Prop := ∃ (o : Obj) (vs : List Value) (ep m mv : Nat), h.get? a = some o ∧ o.ExactSet ∧ o.data = .set (esl (l.zip vs)) ep (stbl l m 0 mv led) ∧ vs.length = l.length ∧ (∀ e ∈ l.zip vs, ∃ t, e.2 = .int (e.1 : Nat) t) ∧ ((m = 7 ∧ l.length < 5) ∨ (m = 31 ∧ l = [0, 1, 2, 3, 4]))
section
variable {prog : Program} {w : World} {A : Around} {E : Value → Shared → Prop} {s : Shared}
theorem esl_size {l : List Nat} {vs : List Value} (h : vs.length = l.length) : (esl (l.zip vs)).size = l.length := by simp [esl, h]
theorem tbl_fits {l : List Nat} {m mv : Nat} {led : Bool} (h : l.length ≤ m) : (stbl l m 0 mv led).fits l.length = true := by
  unfold SetTable.fits SetTable.fill stbl
  simp only [List.size_toArray, BEq.rfl, Bool.true_and]
  exact decide_eq_true (by simpa using h)
end
end L2.Lw

set_option Elab.async false
set_option linter.all false
set_option maxRecDepth 100000
namespace L2.Lw
open PySem PySem.Spec PyProof.Rows
def byT (w : World) : Bool := w.params.followText "set-order"
theorem SetX.heap {h h' : Heap} {a : Addr} {l : List Nat} {led : Bool} (x : SetX h a l led) (k : ∀ o, h.get? a = some o → h'.get? a = some o) : SetX h' a l led := by
  obtain ⟨o, vs, ep, m, mv, ho, r⟩ := x
  exact ⟨o, vs, ep, m, mv, k o ho, r⟩
section
variable {prog : Program} {w : World} {A : Around} {R : Result → Shared → Prop} {I : Addr} {fp wr : List Addr} {G : Array GenState → Array GenState → Prop} {n : Nat} {P : Nat → Value → Prop} {St : Nat → Shared → Prop}
end
section
variable {prog : Program} {w : World} {A : Around} {E : Value → Shared → Prop} {s : Shared}
end
end L2.Lw

set_option Elab.async false
set_option linter.all false
set_option maxRecDepth 100000
namespace L2.Lw
open PySem PySem.Spec PyProof.Rows
section
variable {prog : Program} {w : World} {A : Around} {E : Value → Shared → Prop} {s : Shared}
end
end L2.Lw

set_option Elab.async false
set_option linter.all false
set_option maxRecDepth 100000
namespace L2.Lw
open PySem PySem.Spec PyProof.Rows
end L2.Lw

set_option Elab.async false
set_option linter.all false
set_option maxRecDepth 100000
namespace L2.Lw
open PySem PySem.Spec PyProof.Rows
section
variable {prog : Program} {w : World} {A : Around} {E : Value → Shared → Prop} {s : Shared}
end
end L2.Lw

set_option Elab.async false
set_option linter.all false
set_option maxRecDepth 100000
namespace L2.Lw
open PySem PySem.Spec PyProof.Rows
def IsSI (h : Heap) (I a : Addr) (slot i n ep : Nat) : Prop := ∃ o, h.get? I = some o ∧ o.cls = .type "set_iterator" ∧ o.data = .fields #[.int slot 0, .int i 0, .ref a, .int n 0, .int ep 0]
theorem IsSI.typeIs {s : Shared} {I a : Addr} {slot i n ep : Nat} (x : IsSI s.heap I a slot i n ep) : s.TypeIs (.ref I) "set_iterator" := let ⟨o, ho, hc, _⟩ := x; ⟨o, ho, hc⟩
/-- the set at a is just this one -/
structure SetE (w : World) (h : Heap) (a : Addr) (L : List Nat) (vs : List Value) (ep m mv : Nat) : Prop where
  ob : ∃ o, h.get? a = some o ∧ o.ExactSet ∧ o.data = .set (esl (L.zip vs)) ep (stbl L m 0 mv (!byT w))
  sub : L ∈ subs 5
  len : vs.length = L.length
  ms : (m = 7 ∧ L.length < 5) ∨ (m = 31 ∧ L = [0, 1, 2, 3, 4])
theorem SetE.fits {w : World} {h : Heap} {a : Addr} {L : List Nat} {vs : List Value} {ep m mv : Nat} (x : SetE w h a L vs ep m mv) : (stbl L m 0 mv (!byT w)).fits (esl (L.zip vs)).size = true := by
  rw [esl_size x.len]
  refine tbl_fits ?_
  have := subs_len 5 L x.sub
  rcases x.ms with ⟨rfl, _⟩ | ⟨rfl, _⟩ <;> omega
section
variable {prog : Program} {w : World} {A : Around} {E : Value → Shared → Prop} {s : Shared} {a : Addr} {L : List Nat} {vs : List Value} {ep m mv : Nat}
theorem SetE.typeIs (x : SetE w s.heap a L vs ep m mv) : s.TypeIs (.ref a) "set" := let ⟨o, ho, hex, _⟩ := x.ob; ⟨o, ho, hex.1⟩
end
end L2.Lw

set_option Elab.async false
set_option linter.all false
set_option maxRecDepth 100000
namespace L2.Lw
open PySem PySem.Spec PyProof.Rows
section
variable {prog : Program} {w : World} {A : Around} {E : Value → Shared → Prop} {s : Shared} {a I : Addr} {L : List Nat} {vs : List Value} {ep m mv i : Nat}
end
end L2.Lw

set_option Elab.async false
set_option linter.all false
set_option maxRecDepth 100000
namespace L2.Lw
open PySem PySem.Spec PyProof.Rows
section
variable {prog : Program} {w : World} {A : Around} {E : Value → Shared → Prop} {s : Shared} {a I : Addr} {L : List Nat} {vs : List Value} {ep m mv i : Nat}
theorem SetE.lt {h : Heap} (x : SetE w h a L vs ep m mv) : a < h.objs.size := let ⟨o, ho, _⟩ := x.ob; Heap.lt_size ho
end
end L2.Lw

set_option Elab.async false
set_option linter.all false
set_option maxRecDepth 100000
namespace L2.Lw
open PySem PySem.Spec PyProof.Rows
def SetO (w : World) (a : Addr) (L : List Nat) : HO := .ext fun h => ∃ (vs : List Value) (ep m mv : Nat), SetE w h a L vs ep m mv ∧ ∀ e ∈ L.zip vs, ∃ t, e.2 = .int ((e.1 : Nat) : Int) t
section
variable {X : Cx}
end
end L2.Lw

set_option Elab.async false
set_option linter.all false
set_option maxRecDepth 100000
namespace L2.Lw
open PySem PySem.Spec PyProof.Rows
/-! ### own classes: methods by what they promise, instances made with keywords -/
structure CalM (P : Program) (w : World) (K : PySem.W.Frag) (mg : Str → Option Value) (base : Heap) (C : Addr) (m : Str) (k : Nat) (ps : List Str) (sp : Sp) : Prop where
  ex : ∃ (f : Addr) (fd : FuncData), FnOk P w K mg base CX0 k f fd ps sp ∧ Meth K C m f ∧ Binds K fd ps []
  cl : Cls K C
/-- a method of the text as the top has left it -/
structure Mtd (K : PySem.W.Frag) (C : Addr) (m q : Str) (st : Stmt) (ps : List Str) : Prop where
  ex : ∃ (f : Addr) (fd : FuncData), Fun K m q st f fd ∧ Meth K C m f ∧ Binds K fd ps []
  cl : Cls K C
section
variable {P : Program} {w : World} {K : PySem.W.Frag} {mg : Str → Option Value} {base : Heap}
theorem Mtd.ok {C : Addr} {m q : Str} {st : Stmt} {N ps : List Str} {k : Nat} {sp : Sp} (d : Mtd K C m q st ps) (S : FnScope N ps (defScope st)) (len : ∀ vs H Q E, sp vs H Q E → vs.length = ps.length)
    (hbody : ∀ (f : Addr) (cdv : Value) (A : Around) (outer : List Env) (s : Shared) (H : Hp) (vs : List V) (Q : VK) (E : XK), Room k (A.deeper (envOfC q (defScope st) s.heap.objs.size f cdv)) → sp vs H Q E →
      ∃ t, PSs (cxOf CX0 P w K mg base N q (defScope st) f cdv A outer s H E).nox (defBody st) t ∧ t { nx := fun _ H' => Q .non H', rt := Q } (start N vs) H) : CalM P w K mg base C m (k + 1) ps sp := by
  obtain ⟨f, fd, F, m, b⟩ := d.ex
  exact ⟨⟨f, fd, F.ok S len (fun cdv A outer s H vs Q E hr h => hbody f cdv A outer s H vs Q E hr h), m, b⟩, d.cl⟩
end
section
variable {X : Cx} {x m f : Str} {C : Addr} {k : Nat} {ps ks : List Str} {sp : Sp} {p pos apos : Pos} {e o : Expr} {es : List Expr} {kws : List Keyword} {t tk : TA} {ta tv : TE}
variable {g : List Value → List Value → List Value} {gV : List V → List V → List V} {f' : Addr} {fd : FuncData} {CX : CXT} {E : XK}
end
end L2.Lw

set_option Elab.async false
set_option linter.all false
set_option maxRecDepth 100000
namespace L2.Lw
open PySem PySem.Spec PyProof.Rows
/-! ### defs with defaults by place -/
structure FunE (K : PySem.W.Frag) (x qual : Str) (st : Stmt) (f : Addr) (fd : FuncData) (dV kV : Value) : Prop where
  ex : ∃ (oc : Value) (od : Option Addr) (doc pm : Value) (an : Option Addr) (cdv ct : Value) (osl : Array (Option Value)),
    fd = PySem.W.fnOf x qual (defArgs st) (defBody st) (defScope st) dV kV doc pm an cdv ct ∧ K.lookup f = some ⟨oc, od, .func fd, osl⟩ ∧ PySem.W.codeIn K cdv qual = true
theorem FunE.ok {P : Program} {w : World} {K : PySem.W.Frag} {mg : Str → Option Value} {base : Heap} {x qual : Str} {st : Stmt} {f : Addr} {fd : FuncData} {dV kV : Value} {N ps : List Str} {k : Nat} {sp : Sp} (F : FunE K x qual st f fd dV kV) (S : FnScope N ps (defScope st)) (len : ∀ vs H Q E, sp vs H Q E → vs.length = ps.length)
    (hbody : ∀ (cdv : Value) (A : Around) (outer : List Env) (s : Shared) (H : Hp) (vs : List V) (Q : VK) (E : XK), Room k (A.deeper (envOfC qual (defScope st) s.heap.objs.size f cdv)) → sp vs H Q E →
      ∃ t, PSs (cxOf CX0 P w K mg base N qual (defScope st) f cdv A outer s H E).nox (defBody st) t ∧ t { nx := fun _ H' => Q .non H', rt := Q } (start N vs) H) : FnOk P w K mg base CX0 (k + 1) f fd ps sp := by
  obtain ⟨oc, od, doc, pm, an, cdv, ct, osl, rfl, lk, hcd⟩ := F.ex
  refine fn_of lk hcd S len fun A outer s H vs Q E hr hsp => ?_
  obtain ⟨t, h, q⟩ := hbody cdv A outer s H vs Q E hr hsp
  exact ⟨t, h.nox, q⟩
end L2.Lw

set_option Elab.async false
set_option linter.all false
set_option maxRecDepth 100000
namespace L2.Lw
open PySem PySem.Spec PyProof.Rows
section
variable {X : Cx}
end
section
variable {K : PySem.W.Frag} {a : Addr} {xs : List V} {g : TG} {tt : TT} {tk te : TE} {vs : List Nat} {σ : St} {H1 : Hp} {D : Addr} {Qd : Hp → Prop}
end
end L2.Lw

set_option Elab.async false
set_option linter.all false
set_option maxRecDepth 100000
namespace L2.Lw
open PySem PySem.Spec PyProof.Rows
section
variable {X : Cx} {C : Addr} {k : Nat} {ps : List Str} {sp : Sp}
end
end L2.Lw

set_option Elab.async false
set_option linter.all false
set_option maxRecDepth 100000
namespace L2.Lw
open PySem PySem.Spec PyProof.Rows
section
variable {X : Cx} {pins pins' : List (Addr × Obj)} {σ : St} {H : Hp} {s : Shared}
/-- a key function called on each item -/
def Turn (X : Cx) (A : Around) (f : Value) (us : List Value) (kz : List Int) (pins : List (Addr × Obj)) (σ : St) (H : Hp) : Prop :=
  ∀ (i : Nat) (v : Value) (k : Int), us[i]? = some v → kz[i]? = some k → ∀ pins1 H1 s1, Inv X pins1 σ H1 s1 → Same H H1 → (∀ p ∈ pins, p ∈ pins1) →
    wpAny (model X.prog X.w) A (call f [v]) (fun r s2 => ∃ H2 t, Inv X pins1 σ H2 s2 ∧ Same H1 H2 ∧ r = .int k t) (fun _ _ => False) s1
end
section
variable {X : Cx} {pins : List (Addr × Obj)} {σ : St} {H : Hp} {s : Shared} {A : Around} {E : Value → Shared → Prop} {P : PySem.Fin → Shared → Prop} {f : Value} {us : List Value} {kz : List Int} {a kS : Addr} {b : Bool} {e1 : Nat}
end
end L2.Lw

set_option Elab.async false
set_option linter.all false
set_option maxRecDepth 100000
set_option maxHeartbeats 1000000
namespace L2.Lw
open PySem PySem.Spec PyProof.Rows
section
variable {X : Cx} {pins : List (Addr × Obj)} {σ : St} {H : Hp} {s : Shared} {A : Around} {E : Value → Shared → Prop} {f : Value} {us : List Value} {kz : List Int} {b : Bool}
end
end L2.Lw

set_option Elab.async false
set_option linter.all false
set_option maxRecDepth 100000
set_option maxHeartbeats 1000000
namespace L2.Lw
open PySem PySem.Spec PyProof.Rows
section
variable {P : Program} {w : World} {K : PySem.W.Frag} {mg : Str → Option Value} {base : Heap} {qual : Str} {scope : Scope} {f : Addr} {cd : Value} {cl : List (Str × Addr)} {A : Around} {outer : List Env} {s s1 : Shared} {H : Hp} {E : XK} {CX : CXT} {x : Str} {v : V} {u : Value}
end
/-! ### what is sorted by keys -/
/-- ks with values, and the same with what they stand for -/
inductive KV : List (Int × V) → List (Int × Value) → Prop where
  | nil : KV [] []
  | cons {k : Int} {v : V} {u : Value} {l : List (Int × V)} {m : List (Int × Value)} (r : RelV v u) (t : KV l m) : KV ((k, v) :: l) ((k, u) :: m)
theorem KV.zip : ∀ {kz : List Int} {vs : List V} {us : List Value}, Vals vs us → KV (kz.zip vs) (kz.zip us)
  | [], _, _, _ => .nil
  | _ :: _, _, _, .nil => .nil
  | k :: kz, _, _, .cons r t => .cons r (KV.zip t)
theorem KV.vals {n : List (Int × V)} {m : List (Int × Value)} (h : KV n m) : Vals (n.map Prod.snd) (m.map Prod.snd) := by
  induction h with
  | nil => exact .nil
  | cons r _ ih => exact .cons r ih
theorem KV.keys {n : List (Int × V)} {m : List (Int × Value)} (h : KV n m) : n.map Prod.fst = m.map Prod.fst := by
  induction h with
  | nil => rfl
  | cons _ _ ih => rw [List.map_cons, List.map_cons, ih]
def SortK (kz : List Int) (vs ws : List V) : Prop := ∃ ps : List (Int × V), ps.Perm (kz.zip vs) ∧ ws = ps.map Prod.snd ∧ (ps.map Prod.fst).Pairwise (· ≤ ·)
end L2.Lw

set_option Elab.async false
set_option linter.all false
set_option maxRecDepth 100000
set_option maxHeartbeats 1000000
namespace L2.Lw
open PySem PySem.Spec PyProof.Rows
theorem SqL.grow {K : PySem.W.Frag} {H H1 : Hp} {T l : Addr} {ps : Array Value} {vs : List V} (h : SqL K H l vs) (hT : H T = some (.tbl ps)) (g : ∀ b o, H b = some o → b ≠ T → H1 b = some o) : SqL K H1 l vs := by
  rcases h with h | h
  · rcases h with h | ⟨o, h⟩
    · exact .inl (.inl (g _ _ h fun z => by rw [z, hT] at h; cases h))
    · exact .inl (.inr ⟨o, g _ _ h fun z => by rw [z, hT] at h; cases h⟩)
  · exact .inr h
theorem SortK.len {kz : List Int} {vs ws : List V} (h : SortK kz vs ws) (e : kz.length = vs.length) : ws.length = vs.length := by
  obtain ⟨ps, p, rfl, _⟩ := h
  rw [List.length_map, p.length_eq, List.length_zip, e, Nat.min_self]
section
variable {X : Cx} {k : Nat} {c T : Addr} {args : Arguments} {body : Expr} {scope : Scope} {p lpos kpos pos : Pos} {e : Expr} {ta : TA} {tb : TE} {x : Str}
end
end L2.Lw

set_option Elab.async false
set_option linter.all false
set_option maxRecDepth 100000
namespace L2.Lw
open PySem PySem.Spec PyProof.Rows
/-! ### a dict that stands at the module's top, as it is -/
def MDk (P : Program) (w : World) (K : PySem.W.Frag) (a : Addr) (kvs : List (Key × V)) : Prop := (a == sysModules) = false ∧ ∃ vs : List (Key × Value), L2.KV kvs vs ∧ ∀ h : Heap, K.In h → h.DictOf (mixKind P w) a vs
def tMGet (kvs : List (Key × V)) (ty : TE) : TE := fun σ H Q => ty σ H fun y H1 => ∃ k v, y = kV k ∧ valV kvs k = some v ∧ Q v H1
def tMIn (neg : Bool) (kvs : List (Key × V)) (ty : TE) : TE := fun σ H Q => ty σ H fun y H1 => ∃ k, y = kV k ∧ Q (.bl (if neg then !(valV kvs k).isSome else (valV kvs k).isSome)) H1
section
variable {X : Cx} {i : Expr} {pos p : Pos} {ty : TE} {x : Str} {a : Addr} {kvs : List (Key × V)}
theorem pe_mget (hg : Gl X x) (hm : X.mg x = some (.ref a)) (D : MDk X.prog X.w X.K a kvs) (hi : PE X i ty) (hs : NoSl i) (hdb : (x == ("__debug__" : Str)) = false := by decide) : PE X (.Subscript (.Name x p) i pos) (tMGet kvs ty) := by
  intro pins s σ H Q I h
  obtain ⟨hd, vs, rel, dd⟩ := D
  refine subD_of PySem.F.slot_dict_getitem.lookup hs (ld_glob I hg hm (thn (hi pins s σ H _ I h) fun iv s2 ⟨y, H2, I2, ry, k, v, ey, l, q2⟩ => ?_) hdb)
  subst ey
  obtain ⟨w', hw, rw'⟩ := RelO.some_of (v := v) (o := valueAt vs k) (by rw [← l]; exact rel.val k)
  exact ⟨(dd _ I2.kIn).typeIs, wpAny_getItem_of (kV_is ry) (dd _ I2.kIn).mapOf hw ⟨v, H2, I2.tok _, rw', q2⟩⟩
theorem pc_min (neg : Bool) (op : CmpOp) (ho : op = if neg then .NotIn else .In) (hg : Gl X x) (hm : X.mg x = some (.ref a)) (D : MDk X.prog X.w X.K a kvs) (hi : PE X i ty) (hdb : (x == ("__debug__" : Str)) = false := by decide) : PC X op i (.Name x p) (tMIn neg kvs ty) := by
  subst ho
  intro pins s σ H Q I h
  obtain ⟨hd, vs, rel, dd⟩ := D
  refine thn (hi pins s σ H _ I h) fun iv s1 ⟨y, H1, I1, ry, k, ey, q1⟩ => ld_glob I1 hg hm ?_ hdb
  subst ey
  cases neg with
  | false =>
    refine wpAny_in_of (kV_is ry) hd (dd _ I1.kIn).mapOf ?_
    rw [← (rel.val k).isSome_eq]
    exact ⟨.bl (valV kvs k).isSome, H1, I1.tok _, rfl, q1⟩
  | true =>
    refine wpAny_notIn_of (kV_is ry) hd (dd _ I1.kIn).mapOf ?_
    rw [← (rel.val k).isSome_eq]
    exact ⟨.bl (!(valV kvs k).isSome), H1, I1.tok _, rfl, q1⟩
end
/-! ### a function that a name of the frame holds -/
structure FnV (P : Program) (w : World) (K : PySem.W.Frag) (mg : Str → Option Value) (base : Heap) (f : Addr) (k : Nat) (sp : Sp) : Prop where
  ex : ∃ (fd : FuncData) (ps : List Str), FnOk P w K mg base CX0 k f fd ps sp ∧ PySem.W.keepIn K (.ref f) = true ∧ Binds K fd ps []
def tCallV (P : Program) (w : World) (K : PySem.W.Frag) (mg : Str → Option Value) (base : Heap) (k i : Nat) (t : TA) : TE := fun σ H Q => ∃ f sp, σ[i]? = some (some (.ref f)) ∧ FnV P w K mg base f k sp ∧ t σ H fun vs H1 => sp vs H1 Q E0
section
variable {X : Cx} {i k : Nat} {x : Str} {p pos : Pos} {e : Expr} {es : List Expr} {t : TA}
theorem pe_callV (hr : Room k X.A) (hN : X.N[i]? = some x) (hv : Vis X.env.scope x) (ha : PA X (e :: es) t) (hd : (x == ("__debug__" : Str)) = false := by decide) (hcd : (x == ("__classdict__" : Str)) = false := by decide)
    (he : starEach (e :: es) X.env = (false, eval e X.env) :: starEach es X.env := by rfl) (hpl : (backTo pos (starEach es X.env)).any (·.1) = false := by rfl) : PE X (.Call (.Name x p) (e :: es) [] pos) (tCallV X.prog X.w X.K X.mg X.base k i t) := by
  intro pins s σ H Q I h
  obtain ⟨f, sp, h1, ⟨fd, ps, F, kp, b⟩, h2⟩ := h
  refine wpAny_Call_Name_kw (thn (pe_var hN hv hd hcd pins s σ H (fun v H' => v = .ref f ∧ t σ H' fun vs H1 => sp vs H1 Q E0) I ⟨_, h1, rfl, h2⟩) fun u s1 ⟨v, H1, I1, rv, ev, q⟩ => ?_)
  subst ev
  obtain rfl : u = Value.ref f := rv
  refine PySem.W.callWith_K (h₀ := X.base) I1.ok.mod.kin kp (thn (ha pos pins s1 σ H1 _ I1 q) fun us s2 ⟨vs, H2, I2, r, q2⟩ => ⟨I2.kIn, ?_⟩) he hpl
  exact run_fn (dvs := []) (ds := []) F hr b .nil pass0 I2 r (by rw [List.append_nil]; exact q2)
end
end L2.Lw

set_option Elab.async false
set_option linter.all false
set_option maxRecDepth 100000
namespace L2.Lw
open PySem PySem.Spec PyProof.Rows
/-! ### reversed(tuple) -/
theorem owner_rev : Manifest.owners.lookup (String.ofList ['d', 'e', 's', 'r', 'e', 'v', 'e', 'r'].reverse) = some Manifest.sig_reversed := by kernel_rfl
theorem slot_rev_next : PySem.Slot "reversed" "__next__" "reversed.__next__" :=
  .of (owner := "reversed") (n := "__next__") (by rw [typeLookup_type, builtinLookup_eq_fast]; kernel_rfl) (by decide +kernel) (by decide +kernel) (by decide +kernel)
    (by first | exact .inl (by decide +kernel) | exact .inr (by decide +kernel)) (by rw [isSubtype_type]; kernel_rfl)
theorem entry_rev_next : entryFor table "reversed.__next__" = some Builtin.«reversed.__next__» := entryFor_of_tree (by kernel_rfl)
theorem args_rev_next_1 (a : Value) : argsOk "reversed.__next__" ⟨[a], []⟩ := by
  unfold argsOk; rw [signature?_of (id := "reversed.__next__") (n := ['_', '_', 't', 'x', 'e', 'n', '_', '_']) (o := ['d', 'e', 's', 'r', 'e', 'v', 'e', 'r']) (by kernel_rfl) owner_rev]; kernel_rfl
theorem slot_rev_iter : PySem.Slot "reversed" "__iter__" "reversed.__iter__" :=
  .of (owner := "reversed") (n := "__iter__") (by rw [typeLookup_type, builtinLookup_eq_fast]; kernel_rfl) (by decide +kernel) (by decide +kernel) (by decide +kernel)
    (by first | exact .inl (by decide +kernel) | exact .inr (by decide +kernel)) (by rw [isSubtype_type]; kernel_rfl)
theorem args_rev_iter_1 (a : Value) : argsOk "reversed.__iter__" ⟨[a], []⟩ := by
  unfold argsOk; rw [signature?_of (id := "reversed.__iter__") (n := ['_', '_', 'r', 'e', 't', 'i', '_', '_']) (o := ['d', 'e', 's', 'r', 'e', 'v', 'e', 'r']) (by kernel_rfl) owner_rev]; kernel_rfl
theorem entry_rev_iter : entryFor table "reversed.__iter__" = some Builtin.«dict_keyiterator.__iter__» :=
  entryFor_alias (id' := "dict_keyiterator.__iter__") (by kernel_rfl) (by first | rfl | decide +kernel | (unfold String.splitOn; simp +decide [String.splitOnAux])) (by decide +kernel) (by kernel_rfl)
theorem sub_rev_rev : isSubtype (.type "reversed") (.type "reversed") = pure true := PySem.F.sub_reversed_self
theorem tup_norev : typeLookup (.type "tuple") "__reversed__" = pure none := by rw [typeLookup_type, builtinLookup_eq_fast]; kernel_rfl
theorem called_rev : TypeCalled "reversed" "reversed.__new__" "object.__init__" :=
  ⟨by decide +kernel, PySem.F.create_reversed, ⟨_, _, PySem.F.mro_reversed⟩, PySem.F.made_reversed, PySem.F.plain_reversed_new, sub_rev_rev,
   .of (owner := "object") (n := "__init__") (by rw [typeLookup_type, builtinLookup_eq_fast]; kernel_rfl) (by decide +kernel) (by decide +kernel) (by decide +kernel)
    (by first | exact .inl (by decide +kernel) | exact .inr (by decide +kernel)) (by rw [isSubtype_type]; kernel_rfl)⟩
section
variable {prog : Program} {w : World} {A : Around} {E : Value → Shared → Prop} {s : Shared}
def rvObj (t : Addr) (i : Int) : Obj := { cls := .type "reversed", data := .fields #[.ref t, rawInt i] }
def IsRv (h : Heap) (a t : Addr) (i : Int) : Prop := ∃ o, h.get? a = some o ∧ o.cls = .type "reversed" ∧ o.data = .fields #[.ref t, rawInt i]
theorem IsRv.typeIs {a t : Addr} {i : Int} (x : IsRv s.heap a t i) : s.TypeIs (.ref a) "reversed" := let ⟨o, ho, hc, _⟩ := x; ⟨o, ho, hc⟩
theorem IsRv.at {h h' : Heap} {a t : Addr} {i : Int} (x : IsRv h a t i) (e : ∀ o, h.get? a = some o → h'.get? a = some o) : IsRv h' a t i := let ⟨o, ho, r⟩ := x; ⟨o, e _ ho, r⟩
theorem code_rev_tup {t : Addr} {items : Array Value} {Q₁ : Value → Shared → Prop} (ht : IsTup s.heap t items) (hn : items.size ≤ sizeLine)
    (h : Q₁ (.ref s.heap.objs.size) { s with heap := s.heap.push (rvObj t ((items.size : Int) - 1)), toks := s.toks + 1 + 1 }) :
    codeAny (model prog w) A (.call (.builtin "reversed.__new__") ⟨[.type "reversed", .ref t], []⟩) (wants Q₁ E) s := by
  refine codeAny_of_tree ?_
  show wpAny _ A.in1 (do checkBuiltinCall "reversed.__new__" ⟨[.type "reversed", .ref t], []⟩; again (.builtin "reversed.__new__" ⟨[.type "reversed", .ref t], []⟩)) _ _ s
  refine wpAny_bind (wpAny_of_eq (PySem.F.newCall_reversed_1 (Value.ref t)) (wpAny_pure ⟨plainId_quiet PySem.F.plain_reversed_new _, codeAny_builtin PySem.F.entry_reversed_new ?_⟩)); rw [Around.under_plainId PySem.F.plain_reversed_new _]; unfold Builtin.«reversed.__new__»
  refine wpAny_bind (wpAny_of_eq (newClass_reversed (Value.ref t)) ?_); try dsimp only
  refine wpAny_bind (wpAny_of_eq (a := ()) (by first | rfl | kernel_rfl) ?_); refine wpAny_bind (wpAny_of_eq (a := ()) (by first | rfl | kernel_rfl) ?_); try dsimp only
  refine wpAny_bind (wpAny_specialOf ht.typeIs tup_norev ?_)
  try dsimp only
  refine wpAny_bind ?_
  show wpAny _ _ (isInstance (.ref t) (.type "dict") >>= _) _ _ s
  refine wpAny_bind (wpAny_isInstance (U := "dict") (b := false) ht.typeIs (by rw [isSubtype_type]; kernel_rfl) ?_)
  rw [if_neg Bool.false_ne_true]
  refine wpAny_bind (wpAny_specialOf ht.typeIs slot_tuple_getitem.lookup ?_)
  try dsimp only
  rw [if_pos (by decide)]
  refine wpAny_pure ?_
  rw [if_neg (by decide)]
  refine wpAny_bind (len_tuple ht (by rw [sizeLine_eq] at hn; omega) ?_)
  refine wpAny_bind (wpAny_of_eq (a := some ((items.size : Nat) : Int)) rfl ?_)
  try dsimp only
  refine wpAny_bind ?_
  unfold Builtin.SmallTypes.newRecord
  refine wpAny_newObj_type (wpAny_pure h)
theorem call_rev_tup {t : Addr} {items : Array Value} {Q : Value → Shared → Prop} (ht : IsTup s.heap t items) (hn : items.size ≤ sizeLine)
    (h : Q (.ref s.heap.objs.size) { s with heap := s.heap.push (rvObj t ((items.size : Int) - 1)), toks := s.toks + 1 + 1 }) : wpAny (model prog w) A (call (.type "reversed") [.ref t]) Q E s := by
  refine callType_codes called_rev (PySem.F.typeCall_reversed_1 _) PySem.F.entry_object_init (Q₁ := fun obj s₁ => obj = .ref s.heap.objs.size ∧ s₁ = { s with heap := s.heap.push (rvObj t ((items.size : Int) - 1)), toks := s.toks + 1 + 1 }) (code_rev_tup ht hn ⟨rfl, rfl⟩) ?_
  rintro obj s₁ ⟨rfl, rfl⟩
  have hT : ({ s with heap := s.heap.push (rvObj t ((items.size : Int) - 1)), toks := s.toks + 1 + 1 } : Shared).TypeIs (.ref s.heap.objs.size) "reversed" := ⟨_, Heap.get?_push_size _ rfl, rfl⟩
  exact ⟨hT, PySem.F.args_object_init_2 _ _, object_init_meets called_rev.init.lookup called_rev.made (by decide) prog w _ _ _ ⟨hT, rfl, h⟩⟩
theorem rv_item {it t : Addr} {i : Nat} {items : Array Value} {x : Value} {Q : Option Value → Shared → Prop} (hit : IsRv s.heap it t (i : Int)) (ht : IsTup s.heap t items) (hz : items.size ≤ sizeLine) (hx : items[i]? = some x)
    (hQ : ∀ h', IsRv h' it t ((i : Int) - 1) → Heap.SameBut it s.heap h' → Q (some x) { s with heap := h', toks := s.toks + 1 }) : wpAny (model prog w) A (pyNext (.ref it)) Q E s := by
  obtain ⟨o, ho, hc, hd⟩ := id hit
  have hi : i < items.size := (Array.getElem?_eq_some_iff.mp hx).1
  rw [sizeLine_eq] at hz
  unfold pyNext
  refine wpAny_bind (wpAny_attempt (wpAny_callSpecial?_slot (name := Str.ofString "__next__") hit.typeIs slot_rev_next
    (wpAny_call_entry slot_rev_next hit.typeIs entry_rev_next ?_ (args_rev_next_1 _))))
  unfold Builtin.«reversed.__next__»
  refine wpAny_bind (wpAny_of_eq (a := (Value.ref it, [])) rfl ?_)
  try dsimp only
  refine wpAny_bind (wpAny_field ho hd (x := .ref t) rfl ?_)
  refine wpAny_bind (wpAny_field ho hd (x := rawInt (i : Int)) rfl ?_)
  show wpAny _ _ (if (i : Int) < 0 then _ else _) _ _ s
  rw [if_neg (by omega)]
  refine wpAny_bind (wpAny_specialOf ht.typeIs slot_tuple_getitem.lookup ?_)
  rw [if_neg (by decide)]
  refine wpAny_bind (wpAny_mkInt ?_)
  refine wpAny_bind (wpAny_attempt (getItem_tuple (s := { s with toks := s.toks + 1 }) ht (by omega) (by omega) (j := i) ?_ hx ?_))
  · unfold seqIndex?
    first | rfl | (simp; omega)
  · show wpAny _ _ (field (.ref it) 1 >>= _) _ _ _
    refine wpAny_bind (wpAny_field (s := { s with toks := s.toks + 1 }) ho hd (x := rawInt (i : Int)) rfl ?_)
    refine wpAny_bind (wpAny_setField (s := { s with toks := s.toks + 1 }) ho hd (by simp) ?_)
    first
    | refine wpAny_pure ⟨x, rfl, wpAny_pure (hQ _ ?_ (Heap.SameBut.update ..))⟩
    | refine wpAny_bind (wpAny_pure (wpAny_pure ⟨x, rfl, wpAny_pure (hQ _ ?_ (Heap.SameBut.update ..))⟩))
    exact ⟨_, Heap.get?_update_self _ ho (Obj.isFreed_of_fields (Obj.data_mapFields hd _)), (Obj.cls_mapFields ..).trans hc, by
      rw [Obj.data_mapFields hd]; simp⟩
theorem rv_end {it t : Addr} {Q : Option Value → Shared → Prop} (hh : A.handled = none) (hit : IsRv s.heap it t (-1))
    (hQ : ∀ h', Heap.ExtBut it s.heap h' → Q none { s with heap := h' }) : wpAny (model prog w) A (pyNext (.ref it)) Q E s := by
  obtain ⟨o, ho, hc, hd⟩ := id hit
  unfold pyNext
  refine wpAny_bind (wpAny_attempt (wpAny_callSpecial?_slot (name := Str.ofString "__next__") hit.typeIs slot_rev_next
    (wpAny_call_entry slot_rev_next hit.typeIs entry_rev_next ?_ (args_rev_next_1 _))))
  unfold Builtin.«reversed.__next__»
  refine wpAny_bind (wpAny_of_eq (a := (Value.ref it, [])) rfl ?_)
  try dsimp only
  refine wpAny_bind (wpAny_field ho hd (x := .ref t) rfl ?_)
  refine wpAny_bind (wpAny_field ho hd (x := rawInt (-1)) rfl ?_)
  show wpAny _ _ (if (-1 : Int) < 0 then _ else _) _ _ s
  rw [if_pos (by decide)]
  refine wpAny_bind (wpAny_rule ?_)
  refine wpAny_bind ?_
  show wpAny _ _ (setField (.ref it) 1 (rawInt (-1)) >>= _) _ _ _
  refine wpAny_bind (wpAny_setField ho hd (by simp) ?_)
  refine wpAny_setField (Heap.get?_update_self _ ho (Obj.isFreed_of_fields (Obj.data_mapFields hd _))) (Obj.data_mapFields hd _) (by simp) ?_
  first
  | show wpAny _ _ (newExc (.type "StopIteration") [] >>= _) _ _ _
  | (refine wpAny_bind ?_; show wpAny _ _ (newExc (.type "StopIteration") [] >>= _) _ _ _)
  refine wpAny_bind ?_
  simp only [newExc, newTuple]
  refine wpAny_bind (wpAny_newObj_type ?_ (by size_fits))
  refine wpAny_bind (m := firstArgMember _ _) (wpAny_of_eq (a := Value.none) (by first | rfl | (simp only [firstArgMember]; rfl)) ?_)
  refine wpAny_newObj_type ?_ (by size_fits)
  simp only [raiseNew]
  refine wpAny_bind (wpAny_handled ?_)
  first | rw [show A.in1.handled = none from hh] | rw [hh]
  refine wpAny_bind (wpAny_pure (wpAny_throw ?_))
  refine wpAny_bind (wpAny_isInstance (T := "StopIteration") (b := true) ⟨_, Heap.get?_push_size _ rfl, rfl⟩ isSubtype_stop ?_)
  refine wpAny_pure (hQ _ ?_)
  exact ((((Heap.SameBut.update ..).trans (Heap.SameBut.update ..)).extBut).push _).push _
theorem rv_self {it t : Addr} {i : Int} {Q : Value → Shared → Prop} (hit : IsRv s.heap it t i) (h : Q (.ref it) s) : wpAny (model prog w) A (pyIter (.ref it)) Q E s := by
  refine wpAny_pyIter_slot hit.typeIs slot_rev_iter (wpAny_call_entry slot_rev_iter hit.typeIs entry_rev_iter ?_ (args_rev_iter_1 _))
  show wpAny _ _ (ret (.ref it)) _ _ s
  exact wpAny_pure ⟨_, rfl, "reversed", _, hit.typeIs, slot_rev_next.lookup, h⟩
end
/-- the tuple at a, from its end -/
def Itw (K : PySem.W.Frag) (a : Addr) (n : Nat) : It :=
  ⟨fun i H => i < n ∧ ∃ (xs : List V) (x : V), SqT K H a xs ∧ xs[n - 1 - i]? = some x, fun i H x H' => H' = H ∧ ∀ xs, SqT K H a xs → xs[n - 1 - i]? = some x, fun i _ => n ≤ i⟩
theorem turn_revT {P : Program} {w : World} {K : PySem.W.Frag} {tg : Expr} (a it : Addr) (n : Nat) : L2.Turn P w K tg (Itw K a n) [it] it (fun i h => i ≤ n ∧ IsRv h it a ((n : Int) - 1 - (i : Nat))) where
  mem := by simp
  obj := fun i h st b hb => by
    have e : b = it := by simpa using hb
    subst e
    obtain ⟨_, o, e, c, d⟩ := st
    exact ⟨o, e, fun v z => by rw [d] at z; cases z⟩
  keep := fun i h h' st k => ⟨st.1, st.2.at fun o e => k it (by simp) o e⟩
  item := by
    intro X hP hw hK hc i pins s σ H E I hf st hg
    subst hP hw hK
    obtain ⟨hin, xs, x, hq, hx⟩ := hg
    obtain ⟨its, rv, p, hz⟩ := I.tuple hq
    obtain ⟨u, hu, ru⟩ := rv.get hx
    have hl := rv.length
    obtain ⟨f0, f1, f2, f3, f4, f5⟩ := hf it (by simp)
    obtain ⟨_, hit⟩ := st
    have e1 : (n : Int) - 1 - ((i : Nat) : Int) = ((n - 1 - i : Nat) : Int) := by omega
    rw [e1] at hit
    refine rv_item hit p (by simpa [← hl] using hz) (x := u) (by simpa using hu) fun h' st' sb => ?_
    have e2 : ((n - 1 - i : Nat) : Int) - 1 = (n : Int) - 1 - ((i + 1 : Nat) : Int) := by omega
    rw [e2] at st'
    have I1 : Inv X pins σ H { s with heap := h', toks := s.toks + 1 } := I.turned (t' := s.toks + 1) (fun b o hb e => (sb.2 b hb).trans e) f0 f1 f3 f4 f5
    obtain ⟨o, e, c, d⟩ := id st'
    exact ⟨u, rfl, go_of (s := { s with heap := h', toks := s.toks + 1 }) e c d (by decide) ⟨x, H, I1, ru, ⟨rfl, fun ys hy => by rw [I.tuple_inj hy hq]; exact hx⟩, ⟨hin, st'⟩, fun b hb => (hf b hb).1⟩⟩
  done := by
    intro X hP hw hK hc i pins s σ H E I hf st hg
    subst hP hw hK
    obtain ⟨f0, f1, f2, f3, f4, f5⟩ := hf it (by simp)
    obtain ⟨hin, hit⟩ := st
    have hge : n ≤ i := hg
    have e1 : (n : Int) - 1 - ((i : Nat) : Int) = -1 := by omega
    rw [e1] at hit
    exact rv_end (I.ok.hd hc) hit fun h' eb => ⟨rfl, I.turned (t' := s.toks) (fun b o hb e => eb b o hb e) f0 f1 f3 f4 f5⟩
  self := fun A i s Q E st h => rv_self st.2 h
def iRevT (K : PySem.W.Frag) (ta : TA) : TI := fun σ H R => ta σ H fun vs H1 => ∃ (a : Addr) (xs : List V), vs = [.ref a] ∧ SqT K H1 a xs ∧ R (Itw K a xs.length) H1
section
variable {X : Cx} {tg : Expr}
theorem pi_revT {e : Expr} {ta : TA} {p pos : Pos} (hg : Gl X "reversed") (hm : X.mg "reversed" = none) (ha : PA X [e] ta) (hs : starEach [e] X.env = [(false, eval e X.env)] := by rfl) : PI X tg (.Call (.Name "reversed" p) [e] [] pos) (iRevT X.K ta) := by
  intro pins s σ H R I h
  refine Call_ (ld_blt I hg hm boot_reversed5 (PyProof.Rows.callWith_type1 (thn (ha pos pins s σ H _ I h) fun us s1 ⟨vs, H1, I1, r1, q1⟩ => ?_) hs rfl))
  obtain ⟨a, xs, e, hq, q⟩ := q1
  subst e
  cases r1 with
  | cons r rr =>
    cases rr
    cases r
    obtain ⟨its, rv, p', hz⟩ := I1.tuple hq
    have hl := rv.length
    have e1 : ((its.toArray.size : Nat) : Int) - 1 = (xs.length : Int) - 1 - ((0 : Nat) : Int) := by simp only [List.size_toArray]; omega
    refine call_rev_tup p' (by simpa [← hl] using hz) (rv_self (t := a) (i := ((its.toArray.size : Nat) : Int) - 1) ⟨_, Heap.get?_push_size _ rfl, rfl, rfl⟩ ?_)
    refine pi_one (tk := s1.toks + 1 + 1) I1 _ (turn_revT a _ xs.length) ⟨Nat.zero_le _, ?_⟩ q
    rw [← e1]
    exact ⟨_, Heap.get?_push_size _ rfl, rfl, rfl⟩
end
/-- the turns over a tuple from its end, in a comprehension -/
theorem lc_revT {K : PySem.W.Frag} {a : Addr} {xs : List V} {g : TG} {tt : TT} {te : TE} {vs : List Nat} {σ : St} {H1 : Hp} {D : Addr} {Qd : Hp → Prop} (Pv : Nat → Hp → Prop) (h0 : Pv 0 (upd H1 D (.lst []))) (hl : ∀ i H, i ≤ xs.length → Pv i H → SqT K H a xs)
    (hs : ∀ i x H, xs[xs.length - 1 - i]? = some x → i < xs.length → Pv i H → g x (wipe σ vs) H fun σ2 H2 => wipe σ2 vs = wipe σ vs ∧ tt σ2 H2 fun b H3 =>
      if b = true then te σ2 H3 fun y H4 => ∃ acc, H4 D = some (.lst acc) ∧ acc.length < sizeLine ∧ Pv (i + 1) (upd H4 D (.lst (acc ++ [y]))) else Pv (i + 1) H3) (hd : ∀ H, Pv xs.length H → Qd H) :
    ∃ W : Nat → Nat → Hp → Prop, (∃ m, W 0 m (upd H1 D (.lst []))) ∧ ∀ i m H, W i m H →
      ((Itw K a xs.length).stop i H ∧ Qd H) ∨ ((Itw K a xs.length).go i H ∧ ∃ Nx : Hp → Prop, (∀ H', Nx H' → ∃ m', m' < m ∧ W (i + 1) m' H') ∧ ∀ x H', (Itw K a xs.length).yld i H x H' → g x (wipe σ vs) H' fun σ2 H2 => wipe σ2 vs = wipe σ vs ∧ tt σ2 H2 fun b H3 =>
        if b = true then te σ2 H3 fun y H4 => ∃ acc, H4 D = some (.lst acc) ∧ acc.length < sizeLine ∧ Nx (upd H4 D (.lst (acc ++ [y]))) else Nx H3) := by
  refine ⟨fun i m H => m = xs.length - i ∧ i ≤ xs.length ∧ Pv i H, ⟨xs.length, by simp, Nat.zero_le _, h0⟩, ?_⟩
  rintro i m H ⟨rfl, hi, p⟩
  have q := hl i H hi p
  by_cases hlt : i < xs.length
  · have hk : xs.length - 1 - i < xs.length := by omega
    refine .inr ⟨⟨hlt, xs, xs[xs.length - 1 - i], q, by simp [hk]⟩, Pv (i + 1), fun H' p' => ⟨xs.length - (i + 1), by omega, rfl, hlt, p'⟩, fun x H' y => ?_⟩
    obtain ⟨e, y⟩ := y
    subst e
    exact hs i x _ (y xs q) hlt p
  · have e : i = xs.length := by omega
    subst e
    exact .inl ⟨Nat.le_refl _, hd H p⟩
end L2.Lw

set_option Elab.async false
set_option linter.all false
set_option maxRecDepth 100000
namespace L2.Lw
open PySem PySem.Spec PyProof.Rows
/-! ### sorted of a tuple of numbers -/
def rSortedT (K : PySem.W.Frag) : List V → Hp → VK → Prop := fun xs H Q => ∃ (t : Addr) (ks : List Int), xs = [.ref t] ∧ SqT K H t (ks.map V.int) ∧ ks.length < 64 ∧
  ∀ (ns : List Int) (p : Addr), ns.Perm ks → ns.Pairwise (· ≤ ·) → H p = none → Q (.ref p) (upd H p (.lst (ns.map V.int)))
theorem ints_of_vals : ∀ {ks : List Int} {us : List Value}, Vals (ks.map V.int) us → IntsAre us ks
  | [], _, h => by cases h; exact .nil
  | k :: ks, _, h => by
    cases h with
    | cons r t => obtain ⟨tk, rfl⟩ := r; exact .cons k tk (ints_of_vals t)
section
variable {X : Cx} {K : PySem.W.Frag}
theorem cr_sortedT (hc : X.calm = true) (h : X.K = K := by rfl) : CallR X (.builtin "sorted") (rSortedT K) := by
  subst h
  intro pins s σ H vs us Q I r h
  obtain ⟨t, ks, rfl, ht, h64, q⟩ := h
  obtain ⟨its, rv, ⟨o, ho, hcl, n, hd⟩, hz⟩ := I.tuple ht
  rw [Vals.ref1 r]
  have ia : IntsAre its ks := ints_of_vals rv
  have la : its.length = ks.length := by have := rv.length; simpa using this.symm
  refine Calls.call_function_entry kind_sorted plain_sorted entry_sorted (args_sorted1 _) ?_
  unfold Builtin.«sorted»
  refine wpAny_bind (m := checkCount "sorted" 1 1 _) (wpAny_pure (wpAny_bind (wpAny_collect_seq t (.inr rfl) ho hcl hd (fun h' keep => ?_) (by rw [List.size_toArray, la]; exact Nat.le_trans (Nat.le_of_lt h64) (by decide)))))
  refine wpAny_bind (wpAny_newList ?_ (by simp only [la]; exact Nat.le_trans (Nat.le_of_lt h64) (by decide)))
  have ho : (h'.push (seqObj "list" its.toArray.toList.toArray 0)).get? h'.objs.size = some (seqObj "list" its.toArray.toList.toArray 0) := Heap.get?_push_size _ rfl
  refine wpAny_bind (wpAny_holding (wpAny_call_entry slot_list_sort ⟨_, ho, rfl⟩ entry_list_sort (list_sort_tree ho ia (by simp only [la]; exact h64) fun out ns i1 pm rs => ⟨_, rfl, ?_⟩) (args_list_sort _)))
  refine wpAny_pure ⟨_, rfl, ?_⟩
  have J : Inv X pins σ H { s with heap := h' } := I.kept (t' := s.toks) keep
  have keep2 : ∀ b o, h'.get? b = some o → (sortedHeap (h'.push (seqObj "list" its.toArray.toList.toArray 0)) h'.objs.size its.toArray.toList out).get? b = some o := fun b o e1 => by
    have lt := Heap.lt_size e1
    rw [sortedHeap_old (Nat.ne_of_lt lt) (by rw [Heap.size_push]; exact Nat.lt_succ_of_lt lt)]
    exact Heap.get?_push_of_some _ e1
  obtain ⟨e, he⟩ := sortedHeap_at (out := out) ho
  exact ⟨.ref _, upd H h'.objs.size (.lst (ns.map V.int)), J.laid (t' := s.toks) keep2 (Nat.le_refl _) ⟨by rw [List.length_map, pm.length_eq]; exact Nat.le_trans (Nat.le_of_lt h64) (by decide), out.toList, e, vals_of_ints i1, he⟩, rfl, q ns _ pm rs (J.hok.fresh (Nat.le_refl _))⟩
end
end L2.Lw

set_option Elab.async false
set_option linter.all false
set_option maxRecDepth 100000
namespace L2.Lw
open PySem PySem.Spec PyProof.Rows
/-! ### list.count over data; x in a tuple of data -/
def rCount (K : PySem.W.Frag) : V → List V → Hp → VK → Prop := fun x xs H Q => ∃ (a : Addr) (ys : List V) (y : V) (ds : List PyData) (d : PyData), x = .ref a ∧ xs = [y] ∧ SqL K H a ys ∧ DpAll K H ys ds ∧ Dp K H y d ∧ PyData.canLayAll0 ds = true ∧ d.canLay0 = true ∧ d.depth ≤ 32 ∧ Q (.int ((ds.countP fun e => PyData.eqv e d : Nat) : Int)) H
section
variable {X : Cx}
theorem mt_count (hu : X.A.units + 64 < cLine) : MtR X "list.count" (rCount X.K) := by
  intro pins s σ H x xs v us Q I rx rxs h
  obtain ⟨a, ys, y, ds, d, rfl, rfl, hs, hds, hd, c1, c2, dd, q⟩ := h
  cases rx
  cases rxs with
  | cons ry rt =>
    rename_i uy ut
    cases rt
    obtain ⟨its, rv, ⟨⟨cls, dct, data, sl⟩, n, ho, hc, hdn, hdt⟩, hlen⟩ := I.list hs
    simp only at hc hdt
    subst hc hdt
    obtain ⟨as, r1⟩ := Dp.readsAll I ds ys its hds rv
    obtain ⟨bs, r2⟩ := Dp.reads I d y uy hd ry
    refine call_meets PySem.F.slot_list_count ⟨_, ho, rfl⟩ PySem.F.entry_list_count (PySem.F.args_list_count_2 _ _)
      (SeqAt.list_countAt a its.toArray n dct sl uy (fun u => PyData.eqv (SeqAt.readOf s.heap u) d)) ⟨ho, ?_, ?_⟩
    · refine SeqAt.items_eqAt (by simpa using r1) r2 c1 c2 ?_
      have : min (PyData.depthAll ds) d.depth ≤ d.depth := Nat.min_le_right _ _
      omega
    · have e : (its.toArray.toList.countP fun u => PyData.eqv (SeqAt.readOf s.heap u) d) = ds.countP fun e => PyData.eqv e d := by
        have m := SeqAt.readsAll_map ds its _ c1 r1
        rw [← m, List.countP_map]; rfl
      rw [e]
      exact ⟨.int _, H, I.tok _, ⟨_, rfl⟩, q⟩
end
end L2.Lw

set_option Elab.async false
set_option linter.all false
set_option maxRecDepth 100000
namespace L2.Lw
open PySem PySem.Spec PyProof.Rows
def noStar : Expr → Bool
  | .Starred .. => false
  | _ => true
theorem star_cons {e : Expr} {es : List Expr} {env : Env} (h : noStar e = true) : starEach (e :: es) env = (false, eval e env) :: starEach es env := by
  cases e <;> first | rfl | cases h
theorem pa_kx {X : Cx} {e : Expr} {es : List Expr} {te : TE} {t : TA} (hs : noStar e = true) (ha : PE X e te) (hr : PA X es t) : PA X (e :: es) (tCons te t) := pa_cons ha hr (star_cons hs)
end L2.Lw

set_option Elab.async false
set_option linter.all false
set_option maxRecDepth 100000
namespace L2.Lw
open PySem PySem.Spec PyProof.Rows
/-! ### the rules over families that are not unfolded -/
@[irreducible] def qE := @PE
theorem qE_eq : @PE = @qE := by unfold qE; rfl
@[irreducible] def qA := @PA
theorem qA_eq : @PA = @qA := by unfold qA; rfl
@[irreducible] def qT := @PT
theorem qT_eq : @PT = @qT := by unfold qT; rfl
@[irreducible] def qS := @PS
theorem qS_eq : @PS = @qS := by unfold qS; rfl
@[irreducible] def qZ := @PSs
theorem qZ_eq : @PSs = @qZ := by unfold qZ; rfl
theorem unqZ {X : Cx} {ss : List Stmt} {t : TS} (h : qZ X ss t) : PSs X ss t := by rw [qZ_eq]; exact h
def Q_PW_pt := (qT_eq ▸ @PW.pt)
def Q_pa_cons := (qE_eq ▸ qA_eq ▸ @pa_cons)
def Q_pa_kx := (qE_eq ▸ qA_eq ▸ @pa_kx)
def Q_pa_nil := (qA_eq ▸ @pa_nil)
def Q_pcall := (qA_eq ▸ qE_eq ▸ @pcall)
def Q_pcallX := (qA_eq ▸ qE_eq ▸ @pcallX)
def Q_pe_bl := (qE_eq ▸ @pe_bl)
def Q_pe_bm := (qE_eq ▸ qA_eq ▸ @pe_bm)
def Q_pe_callB := (qA_eq ▸ qE_eq ▸ @pe_callB)
def Q_pe_callTy := (qA_eq ▸ qE_eq ▸ @pe_callTy)
def Q_pe_cmpR := (qE_eq ▸ @pe_cmpR)
def Q_pe_ifExp := (qT_eq ▸ qE_eq ▸ @pe_ifExp)
def Q_pe_int := (qE_eq ▸ @pe_int)
def Q_pe_ix := (qE_eq ▸ @pe_ix)
def Q_pe_lam := (qE_eq ▸ @pe_lam)
def Q_pe_lc := (qE_eq ▸ @pe_lc)
def Q_pe_lcI := (qE_eq ▸ @pe_lcI)
def Q_pe_lst := (qA_eq ▸ qE_eq ▸ @pe_lst)
def Q_pe_op := (qE_eq ▸ @pe_op)
def Q_pe_str := (qE_eq ▸ @pe_str)
def Q_pe_triedv := (qE_eq ▸ @pe_triedv)
def Q_pe_tup := (qA_eq ▸ qE_eq ▸ @pe_tup)
def Q_piL := (qE_eq ▸ @piL)
def Q_pi_range1 := (qA_eq ▸ @pi_range1)
def Q_ps_asg := (qE_eq ▸ qS_eq ▸ @ps_asg)
def Q_ps_cut := (qS_eq ▸ @ps_cut)
def Q_ps_expr := (qE_eq ▸ qS_eq ▸ @ps_expr)
def Q_ps_for := (qZ_eq ▸ qS_eq ▸ @ps_for)
def Q_ps_if := (qT_eq ▸ qZ_eq ▸ qS_eq ▸ @ps_if)
def Q_ps_par := (qA_eq ▸ qS_eq ▸ @ps_par)
def Q_ps_par3 := (qA_eq ▸ qS_eq ▸ @ps_par3)
def Q_ps_ret := (qE_eq ▸ qS_eq ▸ @ps_ret)
def Q_ps_set := (qE_eq ▸ qS_eq ▸ @ps_set)
def Q_pss_cons := (qS_eq ▸ qZ_eq ▸ @pss_cons)
def Q_pss_nil := (qZ_eq ▸ @pss_nil)
def Q_pss_one := (qS_eq ▸ qZ_eq ▸ @pss_one)
def Q_pt_cmpR := (qE_eq ▸ qT_eq ▸ @pt_cmpR)
def Q_pt_not := (qT_eq ▸ @pt_not)
def Q_pt_val := (qE_eq ▸ qT_eq ▸ @pt_val)
def Q_pv := (qE_eq ▸ @pv)
def Q_pw_and := (qT_eq ▸ @pw_and)
def Q_pw_and1 := (qT_eq ▸ @pw_and1)
def Q_pw_or := (qT_eq ▸ @pw_or)
def Q_pw_or1 := (qT_eq ▸ @pw_or1)
end L2.Lw

set_option Elab.async false
set_option linter.all false
set_option maxRecDepth 100000
namespace L2.Lw
open PySem PySem.Spec PyProof.Rows
/-! ### wirings -/
inductive Bx where
  | wire | lag | weigh (n : Nat) | copy (n : Nat) | sum (n : Nat) | shuf (l : List Nat) | mix (l : List (List Nat))
  deriving DecidableEq
inductive Wt where
  | box (b : Bx) | trn (w : Wt) | rng (w : Wt) | thn (ws : List Wt) | bes (ws : List Wt)
def nV (n : Nat) : V := .int (n : Nat)
/-- a box stands at a -/
def BxAt (K : PySem.W.Frag) (H : Hp) (a : Addr) : Bx → Prop
  | .wire => SqT K H a [.str "wire"]
  | .lag => SqT K H a [.str "lag"]
  | .weigh n => SqT K H a [.str "weigh", nV n]
  | .copy n => SqT K H a [.str "copy", nV n]
  | .sum n => SqT K H a [.str "sum", nV n]
  | .shuf l => ∃ b, SqT K H a [.str "shuffle", .ref b] ∧ SqT K H b (l.map nV)
  | .mix l => ∃ b vs, SqT K H a [.str "mix", .ref b] ∧ SqT K H b vs ∧ vs.length = l.length ∧ ∀ (i : Nat) ns, l[i]? = some ns → ∃ c : Addr, vs[i]? = some (V.ref c) ∧ SqT K H c (ns.map nV)
mutual
def Wr (K : PySem.W.Frag) (H : Hp) : Wt → V → Prop
  | .box b, v => ∃ a, v = .ref a ∧ BxAt K H a b
  | .trn w, v => ∃ a u, v = .ref a ∧ SqT K H a [.str "turned", u] ∧ Wr K H w u
  | .rng w, v => ∃ a u, v = .ref a ∧ SqT K H a [.str "ring", u] ∧ Wr K H w u
  | .thn ws, v => ∃ a b vs, v = .ref a ∧ SqT K H a [.str "then", .ref b] ∧ SqT K H b vs ∧ WrAll K H ws vs
  | .bes ws, v => ∃ a b vs, v = .ref a ∧ SqT K H a [.str "beside", .ref b] ∧ SqT K H b vs ∧ WrAll K H ws vs
def WrAll (K : PySem.W.Frag) (H : Hp) : List Wt → List V → Prop
  | [], vs => vs = []
  | w :: ws, vs => ∃ v us, vs = v :: us ∧ Wr K H w v ∧ WrAll K H ws us
end
mutual
def Wt.boxes : Wt → List Bx
  | .box b => [b]
  | .trn w => w.boxes
  | .rng w => w.boxes
  | .thn ws => boxesL ws
  | .bes ws => boxesL ws
def boxesL : List Wt → List Bx
  | [] => []
  | w :: ws => w.boxes ++ boxesL ws
end
mutual
def Wt.deep : Wt → Nat
  | .box _ => 1
  | .trn w => w.deep + 1
  | .rng w => w.deep + 1
  | .thn ws => deepL ws + 1
  | .bes ws => deepL ws + 1
def deepL : List Wt → Nat
  | [] => 0
  | w :: ws => max w.deep (deepL ws)
end
mutual
def Wt.size : Wt → Nat
  | .box _ => 1
  | .trn w => w.size + 1
  | .rng w => w.size + 1
  | .thn ws => sizeL ws + 1
  | .bes ws => sizeL ws + 1
def sizeL : List Wt → Nat
  | [] => 0
  | w :: ws => w.size + sizeL ws
end
def Bx.ok : Bx → Prop
  | .wire => True
  | .lag => True
  | .weigh n => n ≤ 96
  | .copy n => n ≤ 4
  | .sum n => n ≤ 4
  | .shuf l => 1 ≤ l.length ∧ l.length ≤ 12 ∧ l.Perm (List.range l.length)
  | .mix l => 1 ≤ l.length ∧ l.length ≤ 12 ∧ (∀ ns ∈ l, 1 ≤ ns.length ∧ ns.length ≤ 12 ∧ ∀ n ∈ ns, n ≤ 96) ∧ ∀ ns ∈ l, ns.length = (l.headD []).length
mutual
/-- joined parts have one to twelve parts -/
def Wt.okj : Wt → Prop
  | .box _ => True
  | .trn w => w.okj
  | .rng w => w.okj
  | .thn ws => 1 ≤ ws.length ∧ ws.length ≤ 12 ∧ okjL ws
  | .bes ws => 1 ≤ ws.length ∧ ws.length ≤ 12 ∧ okjL ws
def okjL : List Wt → Prop
  | [] => True
  | w :: ws => w.okj ∧ okjL ws
end
structure Wt.Ok (w : Wt) : Prop where
  j : w.okj
  b : ∀ x ∈ w.boxes, x.ok
  d : w.deep ≤ 16
  m : w.boxes.length ≤ 60
  l : w.boxes.count .lag ≤ 8
def Bx.ends : Bx → Nat × Nat
  | .wire => (1, 1)
  | .lag => (1, 1)
  | .weigh _ => (1, 1)
  | .copy n => (1, n)
  | .sum n => (n, 1)
  | .shuf l => (l.length, l.length)
  | .mix l => ((l.headD []).length, l.length)
/-- parts one behind the other -/
def thnE : List (Nat × Nat) → Option (Nat × Nat)
  | [] => none
  | [e] => some e
  | e :: f :: es => if e.2 = f.1 then (thnE (f :: es)).map fun g => (e.1, g.2) else none
def besE (es : List (Nat × Nat)) : Nat × Nat := ((es.map (·.1)).sum, (es.map (·.2)).sum)
def few (e : Option (Nat × Nat)) : Option (Nat × Nat) := e.bind fun e => if e.1 ≤ 12 ∧ e.2 ≤ 12 then some e else none
def rngE (e : Nat × Nat) : Option (Nat × Nat) := if e.1 = 0 ∨ e.2 = 0 then none else some (e.1 - 1, e.2 - 1)
mutual
def Wt.ends : Wt → Option (Nat × Nat)
  | .box b => some b.ends
  | .trn w => w.ends.map fun e => (e.2, e.1)
  | .rng w => w.ends.bind rngE
  | .thn ws => (endsL ws).bind fun es => few (thnE es)
  | .bes ws => (endsL ws).bind fun es => few (some (besE es))
def endsL : List Wt → Option (List (Nat × Nat))
  | [] => some []
  | w :: ws => w.ends.bind fun e => (endsL ws).map fun es => e :: es
end
section
variable {K : PySem.W.Frag} {H H' : Hp}
theorem BxAt.kt {a : Addr} (k : KT K H H') : ∀ {b : Bx}, BxAt K H a b → BxAt K H' a b
  | .wire, h => k _ _ h
  | .lag, h => k _ _ h
  | .weigh _, h => k _ _ h
  | .copy _, h => k _ _ h
  | .sum _, h => k _ _ h
  | .shuf _, ⟨b, h1, h2⟩ => ⟨b, k _ _ h1, k _ _ h2⟩
  | .mix _, ⟨b, vs, h1, h2, h3, h4⟩ => ⟨b, vs, k _ _ h1, k _ _ h2, h3, fun i ns e => let ⟨c, x, y⟩ := h4 i ns e; ⟨c, x, k _ _ y⟩⟩
mutual
theorem Wr.kt (k : KT K H H') : ∀ {w : Wt} {v : V}, Wr K H w v → Wr K H' w v
  | .box _, _, ⟨a, e, h⟩ => ⟨a, e, h.kt k⟩
  | .trn w, _, ⟨a, u, e, h1, h2⟩ => ⟨a, u, e, k _ _ h1, Wr.kt k (w := w) h2⟩
  | .rng w, _, ⟨a, u, e, h1, h2⟩ => ⟨a, u, e, k _ _ h1, Wr.kt k (w := w) h2⟩
  | .thn ws, _, ⟨a, b, vs, e, h1, h2, h3⟩ => ⟨a, b, vs, e, k _ _ h1, k _ _ h2, WrAll.kt k (ws := ws) h3⟩
  | .bes ws, _, ⟨a, b, vs, e, h1, h2, h3⟩ => ⟨a, b, vs, e, k _ _ h1, k _ _ h2, WrAll.kt k (ws := ws) h3⟩
theorem WrAll.kt (k : KT K H H') : ∀ {ws : List Wt} {vs : List V}, WrAll K H ws vs → WrAll K H' ws vs
  | [], _, h => h
  | w :: ws, _, ⟨v, us, e, h1, h2⟩ => ⟨v, us, e, Wr.kt k (w := w) h1, WrAll.kt k (ws := ws) h2⟩
end
theorem WrAll.len : ∀ {ws : List Wt} {vs : List V}, WrAll K H ws vs → vs.length = ws.length
  | [], _, h => by rw [h]; rfl
  | w :: ws, _, ⟨v, us, e, h1, h2⟩ => by rw [e, List.length_cons, List.length_cons, WrAll.len h2]
theorem WrAll.at : ∀ {ws : List Wt} {vs : List V} {i : Nat} {w : Wt}, WrAll K H ws vs → ws[i]? = some w → ∃ v, vs[i]? = some v ∧ Wr K H w v
  | [], _, _, _, _, e => by simp at e
  | x :: ws, _, 0, w, ⟨v, us, e, h1, h2⟩, q => by
    simp at q; subst q; exact ⟨v, by rw [e]; rfl, h1⟩
  | x :: ws, _, i + 1, w, ⟨v, us, e, h1, h2⟩, q => by
    obtain ⟨y, hy, hw⟩ := WrAll.at (i := i) h2 (by simpa using q)
    exact ⟨y, by rw [e]; simpa using hy, hw⟩
theorem WrAll.of : ∀ {ws : List Wt} {vs : List V}, vs.length = ws.length → (∀ (i : Nat) (w : Wt) (v : V), ws[i]? = some w → vs[i]? = some v → Wr K H w v) → WrAll K H ws vs
  | [], vs, e, _ => List.eq_nil_of_length_eq_zero e
  | w :: ws, [], e, _ => absurd e (by simp)
  | w :: ws, v :: vs, e, h => ⟨v, vs, rfl, h 0 w v rfl rfl, WrAll.of (by simpa using e) fun i x y hx hy => h (i + 1) x y (by simpa using hx) (by simpa using hy)⟩
theorem WrAll.app {ws : List Wt} {vs : List V} {w : Wt} {v : V} (h : WrAll K H ws vs) (q : Wr K H w v) : WrAll K H (ws ++ [w]) (vs ++ [v]) := by
  induction ws generalizing vs with
  | nil =>
    have : vs = [] := h
    subst this; exact ⟨v, [], rfl, q, rfl⟩
  | cons x ws ih =>
    obtain ⟨y, us, rfl, h1, h2⟩ := h
    exact ⟨y, us ++ [v], rfl, h1, ih h2⟩
theorem Wr.ref : ∀ {w : Wt} {v : V}, Wr K H w v → ∃ a, v = .ref a
  | .box _, _, ⟨a, e, _⟩ => ⟨a, e⟩
  | .trn _, _, ⟨a, _, e, _⟩ => ⟨a, e⟩
  | .rng _, _, ⟨a, _, e, _⟩ => ⟨a, e⟩
  | .thn _, _, ⟨a, _, _, e, _⟩ => ⟨a, e⟩
  | .bes _, _, ⟨a, _, _, e, _⟩ => ⟨a, e⟩
end
end L2.Lw

set_option Elab.async false
set_option linter.all false
set_option maxRecDepth 100000
namespace L2.Lw
open PySem PySem.Spec PyProof.Rows
/-! ### an exception that leaves a comprehension -/
/-- as FlD, the flight of the newest entry any -/
def FlA (h : Heap) (e : Addr) (cls : Value) (dd : Option Addr) (T : Addr) (fl : Value) : Prop :=
  ∃ (oe : Obj) (vs : Array Value) (oT : Obj) (ts : Array Value), h.get? e = some oe ∧ oe.cls = cls ∧ oe.dict = dd ∧ oe.data = .fields vs ∧ vs[1]? = some (.ref T) ∧ T ≠ e ∧ h.get? T = some oT ∧ oT.data = .fields ts ∧ ts[3]? = some fl
theorem FlD.fla {h : Heap} {e T : Addr} {cls : Value} {dd : Option Addr} (f : FlD h e cls dd T) : FlA h e cls dd T .none := f
theorem Kp.mono {fs ex ex2 : List Addr} {h h' : Heap} (k : Kp fs ex h h') (hs : ∀ b ∈ ex, b ∈ ex2) : Kp fs ex2 h h' :=
  ⟨fun b o q hf hx => k.keep b o q hf fun z => hx (hs b z), fun b o q hx => k.slot b o q fun z => hx (hs b z), k.size⟩
theorem Kp.refl {fs ex : List Addr} {h : Heap} : Kp fs ex h h := ⟨fun _ _ q _ _ => q, fun _ o q _ => ⟨o.slots, q⟩, Nat.le_refl _⟩
theorem FlA.upd {h h' : Heap} {e T : Addr} {cls : Value} {dd : Option Addr} {fl : Value} (f : FlA h e cls dd T fl) (k : ∀ b o, h.get? b = some o → (∃ vs, o.data = .fields vs) → h'.get? b = some o) : FlA h' e cls dd T fl := by
  obtain ⟨oe, vs, oT, ts, a1, a2, a3, a4, a5, a6, a7, a8, a9⟩ := f
  exact ⟨oe, vs, oT, ts, k _ _ a1 ⟨_, a4⟩, a2, a3, a4, a5, a6, k _ _ a7 ⟨_, a8⟩, a8, a9⟩
section
variable {Md : Model} {A : Around} {E : Value → Shared → Prop} {s : Shared}
theorem entryN {base : Heap} {env : Env} {outer : List Env} {L e : Addr} {oe : Obj} {vs : Array Value} {head : Value} {hn : Bool} {Q : Unit → Shared → Prop}
    (hfr : A.frames = some (env :: outer)) (hl : s.heap.FunFrames base (env :: outer)) (hf : env.frame = some L) (he : s.heap.get? e = some oe) (hd : oe.data = .fields vs) (hsz : 1 < vs.size)
    (h : ∀ (h' : Heap) (T : Addr), FlA h' e oe.cls oe.dict T (rawInt L) → s.heap.objs.size ≤ T → Kp (frs (env :: outer)) [e] s.heap h' → Q () { s with heap := h' }) :
    wpAny Md A (do let a ← frameOf env; let pl ← entryPlaceOf L hn; let b ← EntryCells.newEntry head a .none (rawInt L) .none pl; setField (.ref e) 1 b) Q E s := by
  have hene : e ∉ frs (env :: outer) := fun hm => by
    obtain ⟨_, o, ho, hnf⟩ := hl.mem hm
    rw [he] at ho; cases ho; exact hnf vs hd
  refine wpAny_bind (wpAny_frameOf_fun hfr hl hf fun g1 k1 => ?_)
  refine wpAny_bind (wpAny_entryPlaceOf fun pl hpl => ?_); unfold EntryCells.newEntry newFields
  refine wpAny_bind (wpAny_newObj_type ?_ (hpl.sizeOk5 head (.ref L) .none (rawInt L) .none))
  have e1 : g1.get? e = some oe := (k1.2.1 e hene).trans he
  obtain ⟨ne, hne⟩ : ∃ ne : Obj, ne = { cls := .type "traceback", dict := none, data := .fields ([head, .ref L, .none, rawInt L, .none] ++ (if pl.isEmpty then List.replicate 6 Value.none else pl)).toArray } := ⟨_, rfl⟩
  rw [← hne]
  have hT : g1.objs.size ≠ e := Nat.ne_of_gt (Heap.lt_size e1)
  refine wpAny_setField (push_get e1) hd hsz ?_
  have d3 := Obj.data_mapFields hd (·.setIfInBounds 1 (Value.ref g1.objs.size))
  have e3 := Heap.get?_update_self (Obj.mapFields (·.setIfInBounds 1 (Value.ref g1.objs.size))) (push_get (o := ne) e1) (Obj.isFreed_of_fields d3)
  have T3 : ((g1.push ne).update e (Obj.mapFields (·.setIfInBounds 1 (Value.ref g1.objs.size)))).get? g1.objs.size = some ne :=
    (Heap.get?_update_other _ _ (Ne.symm hT)).trans (Heap.get?_push_size g1 (by rw [hne]; rfl))
  have dn : ne.data = .fields ([head, .ref L, .none, rawInt L, .none] ++ (if pl.isEmpty then List.replicate 6 Value.none else pl)).toArray := by rw [hne]
  refine h _ g1.objs.size ⟨_, _, _, _, e3, Obj.cls_mapFields _ _, mapF_dict _ _, d3, by simp [hsz], hT, T3, dn, ?_⟩ (by rw [k1.1]; exact Nat.le_refl _) ?_
  · first | (simp; done) | (rcases hpl with rfl | ⟨_, _, _, _, _, _, _, rfl⟩ <;> simp)
  · refine ⟨fun b o q hb hx => ?_, fun b o q hx => ?_, ?_⟩
    · have hbe : b ≠ e := by simpa using hx
      exact (Heap.get?_update_other _ _ (Ne.symm hbe)).trans (push_get ((k1.2.1 b hb).trans q))
    · obtain ⟨sl, z⟩ := k1.2.2 b o q
      have hbe : b ≠ e := by simpa using hx
      exact ⟨sl, (Heap.get?_update_other _ _ (Ne.symm hbe)).trans (push_get z)⟩
    · rw [Heap.size_after_update, Heap.size_push, k1.1]; exact Nat.le_succ _
/-- the frame noted where an entry is there -/
theorem noteN {base : Heap} {env : Env} {outer : List Env} {L e T0 : Addr} {cls fl : Value} {dd : Option Addr} {Q : Unit → Shared → Prop}
    (hfr : A.frames = some (env :: outer)) (hl : s.heap.FunFrames base (env :: outer)) (hf : env.frame = some L) (ht : FlA s.heap e cls dd T0 fl)
    (h : ∀ (h' : Heap) (T : Addr) (fl' : Value), FlA h' e cls dd T fl' → (T = T0 ∨ s.heap.objs.size ≤ T) → Kp (frs (env :: outer)) [e, T0] s.heap h' → Q () { s with heap := h' }) : wpAny Md A (noteFrame (.ref e) env) Q E s := by
  obtain ⟨oe, vs, oT, ts, he, rfl, rfl, hd, h1, hTe, hT, hdT, h3⟩ := ht
  unfold noteFrame
  simp only [hf]
  refine wpAny_bind (wpAny_field he hd h1 ?_); rw [if_pos (show (Value.ref T0 != Value.none) = true from by simp)]
  refine wpAny_bind (wpAny_field hT hdT h3 ?_)
  by_cases c : (fl == rawInt L) = true
  · rw [if_pos c]
    exact wpAny_pure (h s.heap T0 fl ⟨oe, vs, oT, ts, he, rfl, rfl, hd, h1, hTe, hT, hdT, h3⟩ (.inl rfl) .refl)
  rw [if_neg c]
  refine wpAny_bind (wpAny_setField hT hdT (Array.getElem?_eq_some_iff.mp h3).1 ?_)
  have other : ∀ b, b ≠ T0 → (s.heap.update T0 (Obj.mapFields (·.setIfInBounds 3 Value.none))).get? b = s.heap.get? b := fun b hb => Heap.get?_update_other _ _ (Ne.symm hb)
  refine entryN (s := { s with heap := s.heap.update T0 (Obj.mapFields (·.setIfInBounds 3 Value.none)) }) hfr (hl.of_keeps fun b o hb hnf => ⟨o, (other b fun q => by subst q; rw [hT] at hb; cases hb; exact hnf ts hdT).trans hb, rfl⟩) hf ((other e (Ne.symm hTe)).trans he) hd (Array.getElem?_eq_some_iff.mp h1).1 fun h' T fl sz kp => ?_
  have z : (s.heap.update T0 (Obj.mapFields (·.setIfInBounds 3 Value.none))).objs.size = s.heap.objs.size := Heap.size_after_update ..
  refine h h' T _ fl (.inr (by rw [← z]; exact sz)) ⟨fun b o q hb hx => kp.keep b o ((other b fun r => hx (by simp [r])).trans q) hb fun r => hx (List.mem_cons.mpr (.inl (List.mem_singleton.mp r))), fun b o q hx => kp.slot b o ((other b fun r => hx (by simp [r])).trans q) fun r => hx (List.mem_cons.mpr (.inl (List.mem_singleton.mp r))), by rw [← z]; exact kp.size⟩
/-- the flight set -/
theorem flightN {e T : Addr} {cls fl : Value} {dd fr : Option Addr} {fs : List Addr} {Q : Unit → Shared → Prop} (ht : FlA s.heap e cls dd T fl)
    (h : ∀ (h' : Heap), FlA h' e cls dd T (fr.elim .none fun f => rawInt f) → Kp fs [T] s.heap h' → (∀ b, b ≠ T → h'.get? b = s.heap.get? b) → Q () { s with heap := h' }) : wpAny Md A (setFlight (.ref e) fr) Q E s := by
  obtain ⟨oe, vs, oT, ts, he, rfl, rfl, hd, h1, hTe, hT, hdT, h3⟩ := ht
  unfold setFlight
  refine wpAny_bind (wpAny_field he hd h1 ?_); rw [if_pos (show (Value.ref T != Value.none) = true from by simp)]
  refine wpAny_setField hT hdT (Array.getElem?_eq_some_iff.mp h3).1 ?_
  have other : ∀ b, b ≠ T → (s.heap.update T (Obj.mapFields (·.setIfInBounds 3 (fr.elim Value.none fun f => rawInt f)))).get? b = s.heap.get? b := fun b hb => Heap.get?_update_other _ _ (Ne.symm hb)
  have d3 := Obj.data_mapFields hdT (·.setIfInBounds 3 (fr.elim Value.none fun f => rawInt f))
  have lt := (Array.getElem?_eq_some_iff.mp h3).1
  refine h _ ⟨oe, vs, _, _, (other e (Ne.symm hTe)).trans he, rfl, rfl, hd, h1, hTe, Heap.get?_update_self _ hT (Obj.isFreed_of_fields d3), d3, by simp [lt]⟩ ⟨fun b o q _ hx => (other b (by simpa using hx)).trans q, fun b o q hx => ⟨o.slots, (other b (by simpa using hx)).trans q⟩, by rw [Heap.size_after_update]; exact Nat.le_refl _⟩ other
/-- it leaves a def, an entry being there -/
theorem leaveN {base : Heap} {env : Env} {outer : List Env} {L e T0 : Addr} {cls fl : Value} {dd : Option Addr} {Q : Unit → Shared → Prop}
    (hfr : A.frames = some (env :: outer)) (hl : s.heap.FunFrames base (env :: outer)) (hf : env.frame = some L) (ht : FlA s.heap e cls dd T0 fl)
    (h : ∀ (h' : Heap) (T : Addr) (ex : List Addr), FlD h' e cls dd T → (T = T0 ∨ s.heap.objs.size ≤ T) → ex = [e, T0, T] → Kp (frs (env :: outer)) ex s.heap h' → Q () { s with heap := h' }) : wpAny Md A (leaving env (.ref e)) Q E s := by
  unfold leaving
  refine wpAny_bind (noteN hfr hl hf ht fun h1 T fl' f1 hT k1 => ?_)
  refine flightN (fr := none) (fs := frs (env :: outer)) (s := { s with heap := h1 }) f1 fun h2 f2 k2 _ => ?_
  exact h h2 T _ f2 hT rfl ((k1.mono (fun b hb => by simp at hb ⊢; rcases hb with z | z <;> simp [z])).trans (k2.mono (fun b hb => by simp at hb ⊢; simp [hb])))
end
theorem Kp.funs {fs ex : List Addr} {h h' base : Heap} {l : List Env} (k : Kp fs ex h h') (hx : ∀ b ∈ ex, ∀ o, h.get? b = some o → ∃ vs, o.data = .fields vs) (hl : h.FunFrames base l) : h'.FunFrames base l :=
  hl.of_keeps fun b o q hn => by
    by_cases z : b ∈ ex
    · obtain ⟨vs, e⟩ := hx b z o q; exact absurd e (hn vs)
    · obtain ⟨sl, e⟩ := k.slot b o q z
      exact ⟨_, e, rfl⟩
end L2.Lw

set_option Elab.async false
set_option linter.all false
set_option maxRecDepth 100000
namespace L2.Lw
open PySem PySem.Spec PyProof.Rows
/-! ### a list comprehension whose items may be refused -/
/-- what is asked of a def's context, that an exception leaves it -/
def XOut (X : Cx) (E : XK) : Prop := X.stack = X.env :: X.outer ∧ X.ex = [] ∧ ∀ e s', wpAny (model X.prog X.w) X.A (leaving X.env e) (fun _ s'' => XC X.prog X.w X.outer X.H_0 X.s_0 E e s'') (fun e' s'' => XC X.prog X.w X.outer X.H_0 X.s_0 E e' s'') s' → X.xe e s'
theorem xout {P : Program} {w : World} {K : PySem.W.Frag} {mg : Str → Option Value} {base : Heap} {N : List Str} {qual : Str} {scope : Scope} {f : Addr} {cd : Value} {A : Around} {outer : List Env} {s0 : Shared} {H0 : Hp} {E : XK} :
    XOut (cxOf (XC P w) P w K mg base N qual scope f cd A outer s0 H0 E) E := ⟨rfl, rfl, fun _ _ h => h⟩
/-- a block's context with an end for exceptions -/
abbrev blkX (X : Cx) (s : Shared) (H : Hp) (scope : Scope) (cenv : Env) (fp : List Addr) (z : Value → Shared → Prop) : Cx := { X.blk s H scope cenv fp with xe := z }
section
variable {X : Cx} {pins : List (Addr × Obj)} {σ : St} {H3 : Hp} {s3 : Shared} {E : XK} {scope : Scope} {ce : Env} {fp : List Addr} {use : Option (Value → Sem Unit)} {Qf : Value → Shared → Prop} {acc : Value}
theorem blkPass (hX : XOut X E) (I3 : Inv X pins σ H3 s3) (f3 : ∀ b ∈ fp, FpOk X pins H3 b ∧ b < s3.heap.objs.size) (cL : ce.locals = s3.heap.objs.size) (cF : ce.frame = X.env.frame) :
    Passes (XC X.prog X.w) (blkX X s3 H3 scope ce fp fun e s' => notedBy (model X.prog X.w) X.A ce (fun e s' => compPost (model X.prog X.w) X.A X.xe use Qf acc s3.heap.objs.size (.error e) s') e s') E := by
  intro pins' σ' H' s' e s'' I' hx
  obtain ⟨ea, T, cls, dd, H2, rfl, fl, n1, n2, f1, f2, os, bare, un, hok, q⟩ := hx
  have I2 := I'.call' (ch := []) os un hok bare (fun b z => absurd z (by simp))
  have sz : s3.heap.objs.size ≤ s'.heap.objs.size := I'.sz
  have I7 : Inv X pins σ H2 s'' := I3.call' (ch := fp) I2.os I2.base I2.hok I2.bare fun b hb => ⟨(f3 b hb).1.2.2.2.1, (f3 b hb).1.2.1, (f3 b hb).1.2.2.2.2.1, (f3 b hb).1.2.2.2.2.2⟩
  obtain ⟨hst, hex, hxe⟩ := hX
  have nC : H2 s3.heap.objs.size = none := by
    have z : H2 ce.locals = none := I2.free
    rw [cL] at z; exact z
  obtain ⟨m, hn, _⟩ := I2.loc
  have hn : s''.heap.Ns ce.locals m := hn
  rw [cL] at hn
  have fC : FpOk X pins H2 s3.heap.objs.size := I3.fpOk (Nat.le_refl _) nC
  have hfr : X.env.frame = some X.env.locals := by
    rcases I3.ok.stk with z | z
    · have := congrArg List.length (hst.symm.trans z); simp at this
    · exact z.2
  have e1 : frs X.stack = X.env.locals :: frs X.outer := by rw [hst]; unfold frs; rw [List.filterMap_cons, hfr]
  have hC : s3.heap.objs.size ∉ frs X.stack := by
    rw [e1]; intro z
    rcases List.mem_cons.mp z with z | z
    · exact fC.2.1 z
    · exact fC.2.2.1 z
  have hfA : X.A.frames = some (X.env :: X.outer) := by rw [← hst]; exact I7.ok.frames
  have hFl : s''.heap.FunFrames X.base (X.env :: X.outer) := hst ▸ I7.stack
  have e2 : frs (X.env :: X.outer) = frs X.stack := by rw [hst]
  have nn : noteFrame (.ref ea) ce = noteFrame (.ref ea) X.env := by
    unfold noteFrame PySem.frameOf
    rw [cF]
  have sz3 : X.s_0.heap.objs.size ≤ s3.heap.objs.size := I3.sz
  have sz7 : s3.heap.objs.size ≤ s''.heap.objs.size := Nat.le_of_lt (Heap.Ns.lt hn)
  have lC := Heap.Ns.lt hn
  show wpAny _ X.A (noteFrame (.ref ea) ce) _ _ s''
  rw [nn]
  refine noteN hfA hFl hfr fl.fla fun h1 T1 fl1 fa1 hT1 k1 => ?_
  rw [e2] at k1
  -- the new entry
  have gT1 : s3.heap.objs.size ≤ T1 := by
    rcases hT1 with z | z
    · rw [z]; exact Nat.le_trans sz n2
    · exact Nat.le_trans sz7 z
  have hT1n : H2 T1 = none := by
    rcases hT1 with z | z
    · rw [z]; exact f2
    · exact hok.fresh z
  obtain ⟨oC, esC, epC, hoC, hdC, rC⟩ := hn
  have Cne : s3.heap.objs.size ≠ ea ∧ s3.heap.objs.size ≠ T := by
    obtain ⟨oe, vs, oT, ts, a1, a2, a3, a4, a5, a6, a7, a8, a9⟩ := fl
    refine ⟨fun z => ?_, fun z => ?_⟩
    · rw [z, a1] at hoC; cases hoC; rw [a4] at hdC; cases hdC
    · rw [z, a7] at hoC; cases hoC; rw [a8] at hdC; cases hdC
  have hC1 : h1.get? s3.heap.objs.size = some oC := k1.keep _ _ hoC hC (by simp [Cne.1, Cne.2])
  have CneT1 : ∀ o vs, h1.get? s3.heap.objs.size = some o → o.data ≠ .fields vs := fun o vs z z2 => by rw [hC1] at z; cases z; rw [hdC] at z2; cases z2
  refine ⟨m, ⟨oC, esC, epC, hC1, hdC, rC⟩, fun h2 sb cenv hce => ?_⟩
  have fa2 : FlA h2 ea cls dd T1 fl1 := fa1.upd fun b o z ⟨vs, zd⟩ => (sb.2 b fun y => by subst y; exact CneT1 o vs z zd).trans z
  have k2 : Kp (frs X.stack) [s3.heap.objs.size] h1 h2 := ⟨fun b o z _ hx => (sb.2 b (by simpa using hx)).trans z, fun b o z hx => ⟨o.slots, (sb.2 b (by simpa using hx)).trans z⟩, Nat.le_of_eq sb.1.symm⟩
  obtain ⟨oe, vs, oT, ts, a1, a2, a3, a4, a5, a6, a7, a8, a9⟩ := id fa2
  have done : ∀ h3, FlA h3 ea cls dd T1 (cenv.frame.elim .none fun f => rawInt f) → Kp (frs X.stack) [T1] h2 h3 → X.xe (.ref ea) { s'' with heap := h3 } := fun h3 fa3 k3 => by
    apply hxe
    have z1 : Kp (frs X.stack) [ea, T, s3.heap.objs.size, T1] s''.heap h3 := ((k1.mono fun b hb => by simp at hb ⊢; rcases hb with y | y <;> simp [y]).trans (k2.mono fun b hb => by simp at hb ⊢; simp [hb])).trans (k3.mono fun b hb => by simp at hb ⊢; simp [hb])
    -- the frames stand
    have F1 : h1.FunFrames X.base (X.env :: X.outer) := k1.funs (fun b hb o z => by
      obtain ⟨oe, vs, oT, ts, a1, a2, a3, a4, a5, a6, a7, a8, a9⟩ := fl
      simp at hb
      rcases hb with y | y
      · subst y; rw [a1] at z; cases z; exact ⟨_, a4⟩
      · subst y; rw [a7] at z; cases z; exact ⟨_, a8⟩) hFl
    have F2 : h2.FunFrames X.base (X.env :: X.outer) := by
      have all : ∀ l : List Env, (∀ b ∈ frs l, b ≠ s3.heap.objs.size) → h1.FunFrames X.base l → h2.FunFrames X.base l := by
        intro l
        induction l with
        | nil => intro _ _; trivial
        | cons env rest ih =>
          intro hl hF
          obtain ⟨g1, ⟨L, o, g2, g3, g4, g5⟩, g6⟩ := hF
          have mem : L ∈ frs (env :: rest) := by unfold frs; rw [List.filterMap_cons, g2]; simp
          refine ⟨g1, ⟨L, o, g2, g3, (sb.2 L (hl L mem)).trans g4, g5⟩, ih (fun b hb => hl b ?_) g6⟩
          unfold frs; rw [List.filterMap_cons, g2]; exact List.mem_cons_of_mem _ hb
      exact all _ (fun b hb z => by rw [e2] at hb; subst z; exact hC hb) F1
    have F3 : h3.FunFrames X.base (X.env :: X.outer) := k3.funs (fun b hb o z => by
      simp at hb; subst hb
      rw [a7] at z; cases z; exact ⟨_, a8⟩) F2
    refine leaveN (s := { s'' with heap := h3 }) hfA F3 hfr fa3 fun h4 T4 ex fd4 hT4 hexx k4 => ?_
    subst hexx
    rw [e2] at k4
    have z4 : Kp (frs X.stack) [ea, T, s3.heap.objs.size, T1, T4] s''.heap h4 := (z1.mono fun b hb => by simp at hb ⊢; rcases hb with y | y | y | y <;> simp [y]).trans (k4.mono fun b hb => by simp at hb ⊢; rcases hb with y | y | y <;> simp [y])
    have gT4 : s3.heap.objs.size ≤ T4 := by
      rcases hT4 with y | y
      · rw [y]; exact gT1
      · exact Nat.le_trans sz7 (Nat.le_trans z1.size y)
    have hT4n : H2 T4 = none := by
      rcases hT4 with y | y
      · rw [y]; exact hT1n
      · exact hok.fresh (Nat.le_trans z1.size y)
    have kk := Inv.left I7 hst hex z4 (fun b hb => by
      simp at hb
      rcases hb with y | y | y | y | y
      · subst y; exact ⟨Nat.le_trans sz3 (Nat.le_trans sz n1), f1⟩
      · subst y; exact ⟨Nat.le_trans sz3 (Nat.le_trans sz n2), f2⟩
      · subst y; exact ⟨sz3, nC⟩
      · subst y; exact ⟨Nat.le_trans sz3 gT1, hT1n⟩
      · subst y; exact ⟨Nat.le_trans sz3 gT4, hT4n⟩)
    exact ⟨ea, T4, cls, dd, H2, rfl, fd4, Nat.le_trans sz3 (Nat.le_trans sz n1), Nat.le_trans sz3 gT4, f1, hT4n, I7.os, I7.bare, kk.1, kk.2, q⟩
  unfold PySem.passOn
  refine wpAny_bind (wpAny_field a1 a4 a5 ?_)
  rw [if_neg (show ¬ ((Value.ref T1 == Value.none) = true) from by simp)]
  first
    | exact wpAny_bind (wpAny_pure (wpAny_bind (flightN (fs := frs X.stack) (s := { s'' with heap := h2 }) fa2 fun h3 F' K' _ => wpAny_throw (done h3 F' K'))))
    | exact wpAny_bind (flightN (fs := frs X.stack) (s := { s'' with heap := h2 }) fa2 fun h3 F' K' _ => wpAny_throw (done h3 F' K'))
end
end L2.Lw

set_option Elab.async false
set_option linter.all false
set_option maxRecDepth 100000
namespace L2.Lw
open PySem PySem.Spec PyProof.Rows
theorem _root_.L2.Inv.toX {X : Cx} {pins : List (Addr × Obj)} {σ : List (Option V)} {H : Hp} {s : Shared} (I : Inv X pins σ H s) (z : Value → Shared → Prop) : Inv { X with xe := z } pins σ H s := by
  obtain ⟨ok, a2, a3, a4, a5, a6, a7, a8, a9, a10, a11⟩ := I
  obtain ⟨b1, b2, b3, b4, b5, b6, b7, b8, b9, b10, b11, b12, b13, b14, b15, b16, b17, b18⟩ := ok
  exact ⟨⟨b1, b2, b3, b4, b5, b6, b7, b8, b9, b10, b11, b12, b13, b14, b15, b16, b17, b18⟩, a2, a3, a4, a5, a6, a7, a8, a9, a10, a11⟩
section
variable {X : Cx}
theorem lcX_core {E : XK} (hX : XOut X E) {pins : List (Addr × Obj)} {s : Shared} {σ : St} {H : Hp} {Q : VK} {elt tg iter : Expr} {ifs : List Expr} {scope : Scope} {own : List (Str × Nat)} {pos pos' : Pos} {wi : TI} {g : TG} {tt : TT} {te : TE} {use : Option (Value → Sem Unit)} {Qf : Value → Shared → Prop}
    (hc : X.calm = true) (hN : X.N.Nodup) (I : Inv X pins σ H s) (hi : PI X tg iter wi) (ok : BlkOk X.N X.env.scope scope own)
    (hg : ∀ (s : Shared) (H : Hp) (C : Addr) (cl : List (Str × Addr)) (fp : List Addr), PG (X.blk s H scope (compEnvC scope cl C X.env) fp) tg g) (ht : ∀ (s : Shared) (H : Hp) (C : Addr) (cl : List (Str × Addr)) (fp : List Addr), PTs (X.blk s H scope (compEnvC scope cl C X.env) fp) ifs tt)
    (he : ∀ (s : Shared) (H : Hp) (C : Addr) (cl : List (Str × Addr)) (fp : List Addr) (z : Value → Shared → Prop), Passes (XC X.prog X.w) (blkX X s H scope (compEnvC scope cl C X.env) fp z) E → PE (blkX X s H scope (compEnvC scope cl C X.env) fp z) elt te) (hs : ∀ x, foldedSetIterable iter X.env x = pure x)
    (h : tLc wi g tt te (own.map (·.2)) σ H Q)
    (hRR : ∀ D C s' m H', Inv X pins σ H' s' → Q (.ref D) H' → s'.heap.Ns C m → FpOk X pins H' C → compPost (model X.prog X.w) X.A X.xe use Qf (.ref D) C (.ok .next) s') :
    wpAny (model X.prog X.w) X.A (comprehension (.ListComp elt [⟨tg, iter, ifs, 0⟩] scope pos) scope X.env pos' (newList []) false (eval iter X.env) use) Qf X.xe s := by
  have hfree : ∀ y ∈ scope.names, y.2 = .free → ∃ c, X.env.cells.lookup y.1 = some c := fun y hy e => by
    rcases ok.free y hy e with k | k
    · exact I.ok.has _ (.inl k)
    · exact I.ok.has _ (.inr k)
  refine wpAny_comprehension_free (use := use) rfl hs (closure_ok hfree) ok.kind (fun y hy e => by rw [ok.uniq y hy, e])
    (thn (hi pins s σ H _ I h) fun xv s1 hx => thn hx fun itv s2 h2 => ?_)
  obtain ⟨it, fp, tn, J, H2, e, I2, T, st2, f2, q⟩ := h2
  subst e
  refine wpAny_newObj_type (newEnv_comp ?_) (by show 0 ≤ sizeLine; decide)
  generalize hD : s2.heap.objs.size = D
  have hDn : H2 D = none := I2.hok.fresh (Nat.le_of_eq hD)
  obtain ⟨W, ⟨m0, w0⟩, turn⟩ := q D hDn
  -- the new list
  generalize hs3 : ({ s2 with heap := s2.heap.push { cls := .type "list", data := .seq ([] : List Value).toArray } } : Shared) = s3
  have I3 : Inv X pins σ (upd H2 D (.lst [])) s3 := by
    rw [← hs3]
    refine I2.laid (t' := s2.toks) (fun b o e => Heap.get?_push_of_some _ e) (Nat.le_of_eq hD) ⟨Nat.zero_le _, [], 0, .nil, ?_⟩
    rw [← hD]
    exact Heap.get?_push_size _ rfl
  have h3 : s3.heap = s2.heap.push { cls := .type "list", data := .seq ([] : List Value).toArray } := by rw [← hs3]
  have sz : ∀ b ∈ fp, b < s2.heap.objs.size := fun b hb => by
    obtain ⟨o, e, _⟩ := T.obj _ _ st2 b hb
    exact Heap.lt_size e
  have f3 : ∀ b ∈ fp, FpOk X pins (upd H2 D (.lst [])) b ∧ b < s3.heap.objs.size := fun b hb => by
    have hlt := sz b hb
    refine ⟨⟨?_, (f2 b hb).2⟩, by rw [h3, Heap.size_push]; exact Nat.lt_succ_of_lt hlt⟩
    rw [upd_ne (by rw [← hD]; exact Nat.ne_of_lt hlt)]
    exact (f2 b hb).1
  have st3 : tn 0 s3.heap := T.keep _ _ _ st2 fun b _ o e => by rw [h3]; exact Heap.get?_push_of_some _ e
  have I4 := block_start I3 ok hN f3
  have pg := hg s3 (upd H2 D (.lst [])) s3.heap.objs.size (cellsFrom (s3.heap.objs.size + 1) scope.names (cloFrom X.env.cells scope.names [])) fp
  have pt := ht s3 (upd H2 D (.lst [])) s3.heap.objs.size (cellsFrom (s3.heap.objs.size + 1) scope.names (cloFrom X.env.cells scope.names [])) fp
  have pe := he s3 (upd H2 D (.lst [])) s3.heap.objs.size (cellsFrom (s3.heap.objs.size + 1) scope.names (cloFrom X.env.cells scope.names [])) fp
  show codeAny _ _ (.compStart (.ListComp elt [⟨tg, iter, ifs, 0⟩] scope pos) 0 (.ref it) (.ref D) (compEnvC scope (cellsFrom (s3.heap.objs.size + 1) scope.names (cloFrom X.env.cells scope.names [])) s3.heap.objs.size X.env)) (compPost (model X.prog X.w) X.A X.xe use Qf (.ref D) s3.heap.objs.size) { s3 with heap := pushCells (s3.heap.push { cls := .type "dict", data := .dict #[] }) scope.names }
  have nfp : ∀ b ∈ fp, (upd H2 D (.lst [])) b = none := fun b hb => (f3 b hb).1.1
  generalize hce : compEnvC scope (cellsFrom (s3.heap.objs.size + 1) scope.names (cloFrom X.env.cells scope.names [])) s3.heap.objs.size X.env = ce at I4 pg pt pe ⊢
  have cL : ce.locals = s3.heap.objs.size := by subst hce; rfl
  have cF : ce.frame = X.env.frame := by subst hce; rfl
  generalize hH3 : upd H2 D (.lst []) = H3 at I3 I4 pg pt pe w0 nfp f3
  generalize hs4 : ({ s3 with heap := pushCells (s3.heap.push { cls := .type "dict", data := .dict #[] }) scope.names } : Shared) = s4 at I4 ⊢
  have st4 : tn 0 s4.heap := T.keep _ _ _ st3 fun b _ o e => by rw [← hs4]; exact pushCells_keeps _ _ _ _ (Heap.get?_push_of_some _ e)
  have stat : ∀ {σ' : St} {H' : Hp} {s' : Shared}, Inv (X.blk s3 H3 scope ce fp) [] σ' H' s' → (∀ b ∈ fp, H' b = none) → ∀ b ∈ fp, FpOk (X.blk s3 H3 scope ce fp) [] H' b := fun {σ' H' s'} I' hn b hb =>
    ⟨hn b hb, (I'.ok.exf b hb).1, I'.ok.exfs b hb, .inl hb, fun x c e => (I'.ok.exf b hb).2 x c e, fun p hp => absurd (show p ∈ ([] : List (Addr × Obj)) ++ [] from hp) (by simp)⟩
  have loop : codeAny (model X.prog X.w) X.A (.compLoop (.ListComp elt [⟨tg, iter, ifs, 0⟩] scope pos) 0 (.ref it) (.ref D) ce) (compPost (model X.prog X.w) X.A X.xe use Qf (.ref D) s3.heap.objs.size) s4 := by
    refine compLoop_any (fun n s' => ∃ i H', Inv (X.blk s3 H3 scope ce fp) [] (wipe σ (own.map (·.2))) H' s' ∧ tn i s'.heap ∧ (∀ b ∈ fp, H' b = none) ∧ W i n H') ?_ m0 ⟨0, H3, I4, st4, nfp, w0⟩
    rintro n s5 ⟨i, H5, I5, st5, n5, w5⟩
    rcases turn i n H5 w5 with ⟨stop, qq⟩ | ⟨go, Nx, hNx, step⟩
    · have td := T.done (X.blk s3 H3 scope ce fp) rfl rfl rfl hc i [] s5 _ H5 (fun _ _ => False) I5 (stat I5 n5) st5 stop
      refine thnF td fun r s6 ⟨hr, I6⟩ => ?_
      subst hr
      -- back in the def's context
      have I7 : Inv X pins σ H5 s6 := I3.call' (ch := fp) I6.os I6.base I6.hok I6.bare fun b hb => ⟨(f3 b hb).1.2.2.2.1, (f3 b hb).1.2.1, (f3 b hb).1.2.2.2.2.1, (f3 b hb).1.2.2.2.2.2⟩
      have nC : H5 s3.heap.objs.size = none := by
        have z : H5 ce.locals = none := I6.free
        rw [cL] at z
        exact z
      obtain ⟨m, hn, _⟩ := I6.loc
      have hn : s6.heap.Ns ce.locals m := hn
      rw [cL] at hn
      exact hRR D s3.heap.objs.size s6 m H5 I7 qq hn (I3.fpOk (Nat.le_refl _) nC)
    · have ti := T.item (X.blk s3 H3 scope ce fp) rfl rfl rfl hc i [] s5 _ H5 (fun _ _ => False) I5 (stat I5 n5) st5 go
      refine thnF ti fun r s6 ⟨u, hr, h6⟩ => ?_
      subst hr
      refine thnF h6 fun _ s7 ⟨x, H7, I7, r7, y7, st7, n7⟩ => ?_
      have I7' := I7.pinned (stat I7 n7) (T.obj _ _ st7)
      refine thnF (pg _ s7 _ H7 x u _ I7' r7 (step x H7 y7)) fun _ s8 ⟨σ8, H8, I8, hw8, q8⟩ => ?_
      refine thnF (pt _ s8 σ8 H8 _ I8 q8) fun b s9 ⟨H9, I9, q9⟩ => ?_
      -- the turn's end
      have fin : ∀ {s' : Shared} {H' : Hp}, Inv (X.blk s3 H3 scope ce fp) ([] ++ pinsAt fp s7.heap) σ8 H' s' → Nx H' → ∃ m, m < n ∧ ∃ i H', Inv (X.blk s3 H3 scope ce fp) [] (wipe σ (own.map (·.2))) H' s' ∧ tn i s'.heap ∧ (∀ b ∈ fp, H' b = none) ∧ W i m H' := fun {s' H'} I' nx => by
        obtain ⟨m', hm, w'⟩ := hNx H' nx
        have pin' : ∀ b ∈ fp, ∀ o, s7.heap.get? b = some o → s'.heap.get? b = some o ∧ H' b = none := fun b hb o e =>
          let z := I'.pin (b, o) (List.mem_append_right _ (List.mem_append_right _ (mem_pinsAt hb e)))
          ⟨z.1, z.2.1⟩
        have hl : (wipe σ (own.map (·.2))).length = σ8.length := by rw [← hw8, wipe_length]
        refine ⟨m', hm, i + 1, H', (I'.unpinned (pins := [])).weak hl (fun j v e => ?_), T.keep _ _ _ st7 fun b hb o e => (pin' b hb o e).1, fun b hb => ?_, w'⟩
        · rw [← hw8] at e
          exact (wipe_some e).1
        · obtain ⟨o, e, _⟩ := T.obj _ _ st7 b hb
          exact (pin' b hb o e).2
      cases b with
      | false =>
        simp only [Bool.false_eq_true, if_false] at q9 ⊢
        exact fin I9 q9
      | true =>
        simp only [if_true] at q9 ⊢
        refine thn (pe (fun e s' => notedBy (model X.prog X.w) X.A ce (fun e s' => compPost (model X.prog X.w) X.A X.xe use Qf (.ref D) s3.heap.objs.size (.error e) s') e s') (blkPass hX I3 f3 cL cF) _ s9 σ8 H9 _ (I9.toX _) q9) fun z s10 ⟨yv, H10, I10, r10, acc, hD10, hz10, nx⟩ => ?_
        exact app_ok (X := X.blk s3 H3 scope ce fp) (I10.toX _) hD10 hz10 r10 fun s11 I11 => fin I11 nx
  exact codeAny_compStart_list loop (T.self X.A 0 _ _ _ st4 loop)
/-- as a value -/
theorem pe_lcX {E : XK} (hX : XOut X E) {elt tg iter : Expr} {ifs : List Expr} {scope : Scope} {own : List (Str × Nat)} {pos : Pos} {wi : TI} {g : TG} {tt : TT} {te : TE} (hc : X.calm = true) (hN : X.N.Nodup) (hi : PI X tg iter wi) (ok : BlkOk X.N X.env.scope scope own)
    (hg : ∀ (s : Shared) (H : Hp) (C : Addr) (cl : List (Str × Addr)) (fp : List Addr), PG (X.blk s H scope (compEnvC scope cl C X.env) fp) tg g) (ht : ∀ (s : Shared) (H : Hp) (C : Addr) (cl : List (Str × Addr)) (fp : List Addr), PTs (X.blk s H scope (compEnvC scope cl C X.env) fp) ifs tt)
    (he : ∀ (s : Shared) (H : Hp) (C : Addr) (cl : List (Str × Addr)) (fp : List Addr) (z : Value → Shared → Prop), Passes (XC X.prog X.w) (blkX X s H scope (compEnvC scope cl C X.env) fp z) E → PE (blkX X s H scope (compEnvC scope cl C X.env) fp z) elt te) (hs : ∀ x, foldedSetIterable iter X.env x = pure x := by intro _; rfl) :
    PE X (.ListComp elt [⟨tg, iter, ifs, 0⟩] scope pos) (tLc wi g tt te (own.map (·.2))) := by
  intro pins s σ H Q I h
  rw [eval_ListComp]
  refine lcX_core hX hc hN I hi ok hg ht he hs h fun D C s' m H' I' q hn f => ⟨m, hn, fun h'' sb => ?_⟩
  obtain ⟨f0, f1, f2, f3, f4, f5⟩ := f
  exact ⟨.ref D, H', I'.turned (t' := s'.toks) (fun b o hb e => (sb.2 b hb).trans e) f0 f1 f3 f4 f5, rfl, q⟩
end
end L2.Lw

set_option Elab.async false
set_option linter.all false
set_option maxRecDepth 100000
namespace L2.Lw
open PySem PySem.Spec PyProof.Rows
/-! ### a function that a name of the frame holds, which may raise -/
structure FnVX (P : Program) (w : World) (K : PySem.W.Frag) (mg : Str → Option Value) (base : Heap) (f : Addr) (k : Nat) (sp : Sp) : Prop where
  ex : ∃ (fd : FuncData) (ps : List Str), FnOk P w K mg base (XC P w) k f fd ps sp ∧ PySem.W.keepIn K (.ref f) = true ∧ Binds K fd ps []
def tCallVX (P : Program) (w : World) (K : PySem.W.Frag) (mg : Str → Option Value) (base : Heap) (E : XK) (k i : Nat) (t : TA) : TE := fun σ H Q => ∃ f sp, σ[i]? = some (some (.ref f)) ∧ FnVX P w K mg base f k sp ∧ t σ H fun vs H1 => sp vs H1 Q E
section
variable {X : Cx} {i k : Nat} {x : Str} {p pos : Pos} {e : Expr} {es : List Expr} {t : TA} {E : XK}
theorem pe_callVX (hr : Room k X.A) (hx : Passes (XC X.prog X.w) X E) (hN : X.N[i]? = some x) (hv : Vis X.env.scope x) (ha : PA X (e :: es) t) (hd : (x == ("__debug__" : Str)) = false := by decide) (hcd : (x == ("__classdict__" : Str)) = false := by decide)
    (he : starEach (e :: es) X.env = (false, eval e X.env) :: starEach es X.env := by rfl) (hpl : (backTo pos (starEach es X.env)).any (·.1) = false := by rfl) : PE X (.Call (.Name x p) (e :: es) [] pos) (tCallVX X.prog X.w X.K X.mg X.base E k i t) := by
  intro pins s σ H Q I h
  obtain ⟨f, sp, h1, ⟨fd, ps, F, kp, b⟩, h2⟩ := h
  refine wpAny_Call_Name_kw (thn (pe_var hN hv hd hcd pins s σ H (fun v H' => v = .ref f ∧ t σ H' fun vs H1 => sp vs H1 Q E) I ⟨_, h1, rfl, h2⟩) fun u s1 ⟨v, H1, I1, rv, ev, q⟩ => ?_)
  subst ev
  obtain rfl : u = Value.ref f := rv
  refine PySem.W.callWith_K (h₀ := X.base) I1.ok.mod.kin kp (thn (ha pos pins s1 σ H1 _ I1 q) fun us s2 ⟨vs, H2, I2, r, q2⟩ => ⟨I2.kIn, ?_⟩) he hpl
  exact run_fn (dvs := []) (ds := []) F hr b .nil hx I2 r (by rw [List.append_nil]; exact q2)
end
theorem CalX.fnv {P : Program} {w : World} {K : PySem.W.Frag} {mg : Str → Option Value} {base : Heap} {x : Str} {k j : Nat} {ps : List Str} {sp : Sp} {f : Addr} (c : CalX P w K mg base x k ps sp (Pla K ps)) (h : mg x = some (.ref f)) (hk : k ≤ j) : FnVX P w K mg base f j sp := by
  obtain ⟨f', fd, F, m, kp, b⟩ := c.ex
  rw [h] at m
  cases m
  exact ⟨fd, ps, F.mono hk, kp, b⟩
theorem Cal.x {P : Program} {w : World} {K : PySem.W.Frag} {mg : Str → Option Value} {base : Heap} {x : Str} {k : Nat} {ps : List Str} {sp : Sp} {B : FuncData → Prop} (c : Cal P w K mg base x k ps sp B) : CalX P w K mg base x k ps sp B := by
  obtain ⟨f, fd, F, r⟩ := c.ex
  exact ⟨f, fd, L2.Lw.FnOk.any F, r⟩
/-- an own error with its word comes -/
def Comes (E : XK) (H : Hp) (x : Str) (C : Addr) : Prop := ∀ (da : Addr) (H' : Hp), Same H H' → H' da = some (.xd [("word", .str x)]) → E (.ref C) (some da) H'
theorem Comes.same {E : XK} {H H' : Hp} {x : Str} {C : Addr} (c : Comes E H x C) (s : Same H H') : Comes E H' x C := fun da H2 s2 h => c da H2 (s.trans s2) h
end L2.Lw

set_option Elab.async false
set_option linter.all false
set_option maxRecDepth 100000
namespace L2.Lw
open PySem PySem.Spec PyProof.Rows
/-! ### wirings that are written out -/
theorem pe_imp {X : Cx} {e : Expr} {t t' : TE} (h : PE X e t) (i : ∀ σ H Q, t' σ H Q → t σ H Q) : PE X e t' := fun pins s σ H Q I q => h pins s σ H Q I (i _ _ _ q)
theorem pa_imp {X : Cx} {es : List Expr} {t t' : TA} (h : PA X es t) (i : ∀ σ H Q, t' σ H Q → t σ H Q) : PA X es t' := fun pos pins s σ H Q I q => h pos pins s σ H Q I (i _ _ _ q)
/-- what a written wiring comes to -/
structure CW where
  C : St → Hp → Wt → Prop
  mn : ∀ {σ : St} {H H' : Hp} {w : Wt}, C σ H w → Same H H' → C σ H' w
structure CL where
  C : St → Hp → List Wt → Prop
  mn : ∀ {σ : St} {H H' : Hp} {w : List Wt}, C σ H w → Same H H' → C σ H' w
def tW (K : PySem.W.Frag) (c : CW) : TE := fun σ H Q => ∃ w, c.C σ H w ∧ ∀ v H', Wr K H' w v → Same H H' → Q v H'
def tWL (K : PySem.W.Frag) (c : CL) : TE := fun σ H Q => ∃ ws, c.C σ H ws ∧ ∀ (q : Addr) us H', SqT K H' q us → WrAll K H' ws us → Same H H' → Q (.ref q) H'
def tWA (K : PySem.W.Frag) (c : CL) : TA := fun σ H Q => ∃ ws, c.C σ H ws ∧ ∀ us H', WrAll K H' ws us → Same H H' → Q us H'
/-- numbers without a trace -/
def tN (c : St → Nat → Prop) : TE := fun σ H Q => ∃ n, c σ n ∧ Q (nV n) H
def tNA (c : St → List Nat → Prop) : TA := fun σ H Q => ∃ ns, c σ ns ∧ Q (ns.map nV) H
def tNs (K : PySem.W.Frag) (c : St → List Nat → Prop) : TE := fun σ H Q => ∃ ns, c σ ns ∧ ∀ (q : Addr) H', SqT K H' q (ns.map nV) → Same H H' → Q (.ref q) H'
def RwsW (K : PySem.W.Frag) (H : Hp) (vs : List V) (l : List (List Nat)) : Prop := vs.length = l.length ∧ ∀ (i : Nat) ns, l[i]? = some ns → ∃ c : Addr, vs[i]? = some (V.ref c) ∧ SqT K H c (ns.map nV)
def tRs (K : PySem.W.Frag) (c : St → List (List Nat) → Prop) : TE := fun σ H Q => ∃ l, c σ l ∧ ∀ (q : Addr) us H', SqT K H' q us → RwsW K H' us l → Same H H' → Q (.ref q) H'
def tRA (K : PySem.W.Frag) (c : St → List (List Nat) → Prop) : TA := fun σ H Q => ∃ l, c σ l ∧ ∀ us H', RwsW K H' us l → Same H H' → Q us H'
def cInt (i : Int) : St → Nat → Prop := fun _ n => ((n : Nat) : Int) = i
def cNm (i : Nat) : St → Nat → Prop := fun σ n => σ[i]? = some (some (nV n))
def cAdd (c d : St → Nat → Prop) : St → Nat → Prop := fun σ n => ∃ a b, c σ a ∧ d σ b ∧ n = a + b
def cNil {α : Type} : St → List α → Prop := fun _ l => l = []
def cCons {α : Type} (c : St → α → Prop) (d : St → List α → Prop) : St → List α → Prop := fun σ l => ∃ a r, c σ a ∧ d σ r ∧ l = a :: r
def cRep {α : Type} (c : St → List α → Prop) (d : St → Nat → Prop) : St → List α → Prop := fun σ l => ∃ a n, c σ [a] ∧ d σ n ∧ n ≤ 1000 ∧ l = List.replicate n a
def cLen {α : Type} (c : St → List α → Prop) : St → List α → Prop := fun σ l => c σ l ∧ l.length ≤ 1000
def cwName (K : PySem.W.Frag) (i : Nat) : CW := ⟨fun σ H w => ∃ v, σ[i]? = some (some v) ∧ Wr K H w v, fun ⟨v, e, h⟩ s => ⟨v, e, h.kt (Same.kt s)⟩⟩
def cwB (b : Bx) : CW := ⟨fun _ _ w => w = .box b, fun h _ => h⟩
def cwNum (f : Nat → Bx) (c : St → Nat → Prop) : CW := ⟨fun σ _ w => ∃ n, c σ n ∧ w = .box (f n), fun h _ => h⟩
def cwTrn (c : CW) : CW := ⟨fun σ H w => ∃ u, c.C σ H u ∧ w = .trn u, fun ⟨u, h, e⟩ s => ⟨u, c.mn h s, e⟩⟩
def cwRng (c : CW) : CW := ⟨fun σ H w => ∃ u, c.C σ H u ∧ w = .rng u, fun ⟨u, h, e⟩ s => ⟨u, c.mn h s, e⟩⟩
def cwThn (c : CL) : CW := ⟨fun σ H w => ∃ u, c.C σ H u ∧ w = .thn u, fun ⟨u, h, e⟩ s => ⟨u, c.mn h s, e⟩⟩
def cwBes (c : CL) : CW := ⟨fun σ H w => ∃ u, c.C σ H u ∧ w = .bes u, fun ⟨u, h, e⟩ s => ⟨u, c.mn h s, e⟩⟩
def cwMix (c : St → List (List Nat) → Prop) : CW := ⟨fun σ _ w => ∃ l, c σ l ∧ w = .box (.mix l), fun h _ => h⟩
def clNil : CL := ⟨fun _ _ ws => ws = [], fun h _ => h⟩
def clCons (c : CW) (d : CL) : CL := ⟨fun σ H ws => ∃ w r, c.C σ H w ∧ d.C σ H r ∧ ws = w :: r, fun ⟨w, r, h1, h2, e⟩ s => ⟨w, r, c.mn h1 s, d.mn h2 s, e⟩⟩
def clLen (c : CL) : CL := ⟨fun σ H ws => c.C σ H ws ∧ ws.length ≤ 1000, fun ⟨h, l⟩ s => ⟨c.mn h s, l⟩⟩
def clRep (c : CL) (d : St → Nat → Prop) : CL := ⟨fun σ H ws => ∃ w n, c.C σ H [w] ∧ d σ n ∧ n ≤ 1000 ∧ ws = List.replicate n w, fun ⟨w, n, h1, h2, h3, e⟩ s => ⟨w, n, c.mn h1 s, h2, h3, e⟩⟩
theorem WrAll.rep {K : PySem.W.Frag} {H : Hp} {w : Wt} {v : V} (h : Wr K H w v) : ∀ n : Nat, WrAll K H (List.replicate n w) (List.replicate n v)
  | 0 => by rw [List.replicate_zero, WrAll]; rfl
  | n + 1 => by
    rw [List.replicate_succ, List.replicate_succ, WrAll]
    exact ⟨v, _, rfl, h, WrAll.rep h n⟩
theorem WrAll.one {K : PySem.W.Frag} {H : Hp} {w : Wt} {us : List V} (h : WrAll K H [w] us) : ∃ v, us = [v] ∧ Wr K H w v := by
  rw [WrAll] at h
  obtain ⟨v, r, rfl, h1, h2⟩ := h
  rw [WrAll] at h2; subst h2
  exact ⟨v, rfl, h1⟩
section
variable {K : PySem.W.Frag} {σ : St} {H : Hp} {c : CW} {cl dl : CL} {cn dn : St → Nat → Prop}
theorem iB {b : Bx} : (cwB b).C σ H (.box b) := rfl
theorem iV {i : Nat} {v : V} {w : Wt} (e : σ[i]? = some (some v)) (h : Wr K H w v) : (cwName K i).C σ H w := ⟨v, e, h⟩
theorem iNum {f : Nat → Bx} {n : Nat} (h : cn σ n) : (cwNum f cn).C σ H (.box (f n)) := ⟨n, h, rfl⟩
theorem iTrn {w : Wt} (h : c.C σ H w) : (cwTrn c).C σ H (.trn w) := ⟨w, h, rfl⟩
theorem iRng {w : Wt} (h : c.C σ H w) : (cwRng c).C σ H (.rng w) := ⟨w, h, rfl⟩
theorem iThn {ws : List Wt} (h : cl.C σ H ws) : (cwThn cl).C σ H (.thn ws) := ⟨ws, h, rfl⟩
theorem iBes {ws : List Wt} (h : cl.C σ H ws) : (cwBes cl).C σ H (.bes ws) := ⟨ws, h, rfl⟩
theorem iMix {cr : St → List (List Nat) → Prop} {l : List (List Nat)} (h : cr σ l) : (cwMix cr).C σ H (.box (.mix l)) := ⟨l, h, rfl⟩
theorem iNil : clNil.C σ H [] := rfl
theorem iCons {w : Wt} {ws : List Wt} (h : c.C σ H w) (q : cl.C σ H ws) : (clCons c cl).C σ H (w :: ws) := ⟨w, ws, h, q, rfl⟩
theorem iLen {ws : List Wt} (h : cl.C σ H ws) (l : ws.length ≤ 1000 := by simp) : (clLen cl).C σ H ws := ⟨h, l⟩
theorem iRep {w : Wt} {n : Nat} (h : cl.C σ H [w]) (hn : cn σ n) (l : n ≤ 1000) : (clRep cl cn).C σ H (List.replicate n w) := ⟨w, n, h, hn, l, rfl⟩
theorem nInt (n : Nat) : cInt ((n : Nat) : Int) σ n := rfl
theorem nAdd {a b : Nat} (h : cn σ a) (q : dn σ b) : cAdd cn dn σ (a + b) := ⟨a, b, h, q, rfl⟩
theorem nNm {i n : Nat} (e : σ[i]? = some (some (nV n))) : cNm i σ n := e
theorem nNil {α : Type} : (cNil (α := α)) σ [] := rfl
theorem nCons {α : Type} {c : St → α → Prop} {d : St → List α → Prop} {a : α} {r : List α} (h : c σ a) (q : d σ r) : cCons c d σ (a :: r) := ⟨a, r, h, q, rfl⟩
theorem nLen {α : Type} {c : St → List α → Prop} {a : List α} (h : c σ a) (l : a.length ≤ 1000 := by simp) : cLen c σ a := ⟨h, l⟩
theorem nRep {α : Type} {c : St → List α → Prop} {a : α} {n : Nat} (h : c σ [a]) (hn : cn σ n) (l : n ≤ 1000) : cRep c cn σ (List.replicate n a) := ⟨a, n, h, hn, l, rfl⟩
end
section
variable {X : Cx} (K : PySem.W.Frag) {e a b : Expr} {es : List Expr} {c : CW} {cl dl : CL} {cn dn : St → Nat → Prop} {cs : St → List Nat → Prop} {cr : St → List (List Nat) → Prop} {i : Nat} {z : Int} {p p2 : Pos} {j : Nat}
theorem pn_int {j : Nat} : PE X (.Constant (.int z) j p) (tN (cInt z)) := pe_imp pe_int fun σ H Q ⟨n, h, q⟩ => by
  have h : ((n : Nat) : Int) = z := h
  subst h; exact q
theorem pn_name (h : PE X e (tVar i)) : PE X e (tN (cNm i)) := pe_imp h fun σ H Q ⟨n, h, q⟩ => ⟨_, h, q⟩
theorem pna_nil : PA X [] (tNA cNil) := pa_imp pa_nil fun σ H Q ⟨n, h, q⟩ => by
  have h : n = [] := h
  subst h; exact q
theorem pna_cons (h : PE X e (tN cn)) (hr : PA X es (tNA cs)) (hs : starEach (e :: es) X.env = (false, eval e X.env) :: starEach es X.env := by rfl) : PA X (e :: es) (tNA (cCons cn cs)) := pa_imp (pa_cons h hr hs) fun σ H Q ⟨l, ⟨n, r, h1, h2, e⟩, q⟩ => by
  subst e; exact ⟨n, h1, r, h2, q⟩
theorem pn_op {o : Operator} {r : R2} {f : St → Nat → Prop} (ho : OpR X (binaryOp o) r) (ha : PE X a (tN cn)) (hb : PE X b (tN dn)) (hf : ∀ σ n, f σ n → ∃ u v, cn σ u ∧ dn σ v ∧ ∀ H Q, Q (nV n) H → r (nV u) (nV v) H Q) : PE X (.BinOp a o b p) (tN f) :=
  pe_imp (pe_op ho ha hb) fun σ H Q ⟨n, h, q⟩ => by
    obtain ⟨u, v, h1, h2, h3⟩ := hf σ n h
    exact ⟨u, h1, v, h2, h3 _ _ q⟩
theorem pn_add (ha : PE X a (tN cn)) (hb : PE X b (tN dn)) : PE X (.BinOp a .Add b p) (tN (cAdd cn dn)) := pn_op op_add ha hb fun σ n ⟨u, v, h1, h2, e⟩ => ⟨u, v, h1, h2, fun H Q q => ⟨_, _, rfl, rfl, by
  show Q (.int ((u : Int) + (v : Int))) H
  have e2 : ((u : Int) + (v : Int)) = ((n : Nat) : Int) := by subst e; simp
  rw [e2]; exact q⟩⟩
/-- the names, the boxes -/
theorem pw_name (h : PE X e (tVar i)) : PE X e (tW K (cwName K i)) := pe_imp h fun σ H Q ⟨w, ⟨v, e, hw⟩, q⟩ => ⟨v, e, q v H hw (Same.refl _)⟩
theorem pw_wire {x1} {jj} {pp : Pos} : PE X (.Tuple [.Constant (.str "wire") jj pp] x1 p) (tW K (cwB .wire)) := pe_imp (pe_tup (pa_cons pe_str pa_nil rfl)) fun σ H Q ⟨w, h, q⟩ => by
  have h : w = .box .wire := h
  subst h
  exact ⟨by show 1 ≤ sizeLine; decide, fun r hr => q _ _ ⟨r, rfl, SqT.of upd_same⟩ (Same.new hr)⟩
theorem pw_lag {x1} {jj} {pp : Pos} : PE X (.Tuple [.Constant (.str "lag") jj pp] x1 p) (tW K (cwB .lag)) := pe_imp (pe_tup (pa_cons pe_str pa_nil rfl)) fun σ H Q ⟨w, h, q⟩ => by
  have h : w = .box .lag := h
  subst h
  exact ⟨by show 1 ≤ sizeLine; decide, fun r hr => q _ _ ⟨r, rfl, SqT.of upd_same⟩ (Same.new hr)⟩
theorem pw_copy {x1} {jj} {pp : Pos} (h : PE X e (tN cn)) (hs : starEach [e] X.env = [(false, eval e X.env)] := by rfl) : PE X (.Tuple [.Constant (.str "copy") jj pp, e] x1 p) (tW K (cwNum .copy cn)) := pe_imp (pe_tup (pa_cons pe_str (pa_cons h pa_nil hs) rfl)) fun σ H Q ⟨w, ⟨n, hn, ew⟩, q⟩ => by
  subst ew
  exact ⟨n, hn, by show 2 ≤ sizeLine; decide, fun r hr => q _ _ ⟨r, rfl, SqT.of upd_same⟩ (Same.new hr)⟩
theorem pw_sum {x1} {jj} {pp : Pos} (h : PE X e (tN cn)) (hs : starEach [e] X.env = [(false, eval e X.env)] := by rfl) : PE X (.Tuple [.Constant (.str "sum") jj pp, e] x1 p) (tW K (cwNum .sum cn)) := pe_imp (pe_tup (pa_cons pe_str (pa_cons h pa_nil hs) rfl)) fun σ H Q ⟨w, ⟨n, hn, ew⟩, q⟩ => by
  subst ew
  exact ⟨n, hn, by show 2 ≤ sizeLine; decide, fun r hr => q _ _ ⟨r, rfl, SqT.of upd_same⟩ (Same.new hr)⟩
/-- turned, ring -/
theorem pw_trn {x1} {jj} {pp : Pos} (h : PE X e (tW K c)) (hs : starEach [e] X.env = [(false, eval e X.env)] := by rfl) : PE X (.Tuple [.Constant (.str "turned") jj pp, e] x1 p) (tW K (cwTrn c)) := pe_imp (pe_tup (pa_cons pe_str (pa_cons h pa_nil hs) rfl)) fun σ H Q ⟨w, ⟨u, hu, ew⟩, q⟩ => by
  subst ew
  exact ⟨u, hu, fun v H1 hv s1 => ⟨by show 2 ≤ sizeLine; decide, fun r hr => q _ _ ⟨r, v, rfl, SqT.of upd_same, hv.kt (Same.kt (Same.new hr))⟩ (s1.trans (Same.new hr))⟩⟩
theorem pw_rng {x1} {jj} {pp : Pos} (h : PE X e (tW K c)) (hs : starEach [e] X.env = [(false, eval e X.env)] := by rfl) : PE X (.Tuple [.Constant (.str "ring") jj pp, e] x1 p) (tW K (cwRng c)) := pe_imp (pe_tup (pa_cons pe_str (pa_cons h pa_nil hs) rfl)) fun σ H Q ⟨w, ⟨u, hu, ew⟩, q⟩ => by
  subst ew
  exact ⟨u, hu, fun v H1 hv s1 => ⟨by show 2 ≤ sizeLine; decide, fun r hr => q _ _ ⟨r, v, rfl, SqT.of upd_same, hv.kt (Same.kt (Same.new hr))⟩ (s1.trans (Same.new hr))⟩⟩
/-- then, beside -/
theorem pw_thn {x1} {jj} {pp : Pos} (h : PE X e (tWL K cl)) (hs : starEach [e] X.env = [(false, eval e X.env)] := by rfl) : PE X (.Tuple [.Constant (.str "then") jj pp, e] x1 p) (tW K (cwThn cl)) := pe_imp (pe_tup (pa_cons pe_str (pa_cons h pa_nil hs) rfl)) fun σ H Q ⟨w, ⟨u, hu, ew⟩, q⟩ => by
  subst ew
  exact ⟨u, hu, fun t us H1 ht hv s1 => ⟨by show 2 ≤ sizeLine; decide, fun r hr => q _ _ ⟨r, t, us, rfl, SqT.of upd_same, Same.tup (Same.new hr) ht, hv.kt (Same.kt (Same.new hr))⟩ (s1.trans (Same.new hr))⟩⟩
theorem pw_bes {x1} {jj} {pp : Pos} (h : PE X e (tWL K cl)) (hs : starEach [e] X.env = [(false, eval e X.env)] := by rfl) : PE X (.Tuple [.Constant (.str "beside") jj pp, e] x1 p) (tW K (cwBes cl)) := pe_imp (pe_tup (pa_cons pe_str (pa_cons h pa_nil hs) rfl)) fun σ H Q ⟨w, ⟨u, hu, ew⟩, q⟩ => by
  subst ew
  exact ⟨u, hu, fun t us H1 ht hv s1 => ⟨by show 2 ≤ sizeLine; decide, fun r hr => q _ _ ⟨r, t, us, rfl, SqT.of upd_same, Same.tup (Same.new hr) ht, hv.kt (Same.kt (Same.new hr))⟩ (s1.trans (Same.new hr))⟩⟩
/-- the parts -/
theorem pwa_nil : PA X [] (tWA K clNil) := pa_imp pa_nil fun σ H Q ⟨w, h, q⟩ => by
  have h : w = [] := h
  subst h
  exact q [] H (by rw [WrAll]) (Same.refl _)
theorem pwa_cons (h : PE X e (tW K c)) (hr : PA X es (tWA K cl)) (hs : starEach (e :: es) X.env = (false, eval e X.env) :: starEach es X.env := by rfl) : PA X (e :: es) (tWA K (clCons c cl)) := pa_imp (pa_cons h hr hs) fun σ H Q ⟨ws, ⟨w, r, h1, h2, ew⟩, q⟩ => by
  subst ew
  refine ⟨w, h1, fun v H1 hv s1 => ⟨r, cl.mn h2 s1, fun us H2 hus s2 => q _ _ ?_ (s1.trans s2)⟩⟩
  rw [WrAll]
  exact ⟨v, us, rfl, hv.kt (Same.kt s2), hus⟩
theorem pl_tup {x1} (h : PA X es (tWA K cl)) : PE X (.Tuple es x1 p) (tWL K (clLen cl)) := pe_imp (pe_tup h) fun σ H Q ⟨ws, ⟨h1, h2⟩, q⟩ =>
  ⟨ws, h1, fun us H1 hus s1 => ⟨by rw [hus.len]; exact Nat.le_trans h2 (by decide), fun r hr => q r us _ (SqT.of upd_same) (hus.kt (Same.kt (Same.new hr))) (s1.trans (Same.new hr))⟩⟩
theorem pl_rep (hK : X.K = K) (h : PE X a (tWL K cl)) (hn : PE X b (tN cn)) : PE X (.BinOp a .Mult b p) (tWL K (clRep cl cn)) := pe_imp (pe_op (repV K hK) h hn) fun σ H Q ⟨ws, ⟨w, n, h1, h2, h3, ew⟩, q⟩ => by
  subst ew
  refine ⟨[w], h1, fun t us H1 ht hus s1 => ⟨n, h2, ?_⟩⟩
  obtain ⟨v, rfl, hv⟩ := WrAll.one hus
  refine ⟨t, v, ((n : Nat) : Int), rfl, rfl, ht, by omega, by rw [Int.toNat_natCast]; exact Nat.le_trans h3 (by decide), fun r H2 s2 hr => ?_⟩
  rw [Int.toNat_natCast] at hr
  exact q r _ H2 hr (WrAll.rep (hv.kt (Same.kt s2)) n) (s1.trans s2)
/-- tuples of numbers, rows -/
theorem pns_tup {x1} (h : PA X es (tNA cs)) : PE X (.Tuple es x1 p) (tNs K (cLen cs)) := pe_imp (pe_tup h) fun σ H Q ⟨ns, ⟨h1, h2⟩, q⟩ =>
  ⟨ns, h1, by rw [List.length_map]; exact Nat.le_trans h2 (by decide), fun r hr => q r _ (SqT.of upd_same) (Same.new hr)⟩
theorem pns_rep (hK : X.K = K) (h : PE X a (tNs K cs)) (hn : PE X b (tN cn)) : PE X (.BinOp a .Mult b p) (tNs K (cRep cs cn)) := pe_imp (pe_op (repV K hK) h hn) fun σ H Q ⟨ns, ⟨m, n, h1, h2, h3, ew⟩, q⟩ => by
  subst ew
  refine ⟨[m], h1, fun t H1 ht s1 => ⟨n, h2, ?_⟩⟩
  refine ⟨t, nV m, ((n : Nat) : Int), rfl, rfl, ht, by omega, by rw [Int.toNat_natCast]; exact Nat.le_trans h3 (by decide), fun r H2 s2 hr => q r H2 ?_ (s1.trans s2)⟩
  rw [Int.toNat_natCast] at hr
  rw [List.map_replicate]; exact hr
theorem pra_nil : PA X [] (tRA K cNil) := pa_imp pa_nil fun σ H Q ⟨w, h, q⟩ => by
  have h : w = [] := h
  subst h
  exact q [] H ⟨rfl, fun i ns e => by simp at e⟩ (Same.refl _)
theorem RwsW.kt {H H' : Hp} {us : List V} {l : List (List Nat)} (h : RwsW K H us l) (k : KT K H H') : RwsW K H' us l := ⟨h.1, fun i ns e => let ⟨c, x, y⟩ := h.2 i ns e; ⟨c, x, k _ _ y⟩⟩
theorem pra_cons (h : PE X e (tNs K cs)) (hr : PA X es (tRA K cr)) (hs : starEach (e :: es) X.env = (false, eval e X.env) :: starEach es X.env := by rfl) : PA X (e :: es) (tRA K (cCons cs cr)) := pa_imp (pa_cons h hr hs) fun σ H Q ⟨ws, ⟨w, r, h1, h2, ew⟩, q⟩ => by
  subst ew
  refine ⟨w, h1, fun t H1 ht s1 => ⟨r, h2, fun us H2 hus s2 => q _ _ ⟨by rw [List.length_cons, List.length_cons, hus.1], fun i ns e => ?_⟩ (s1.trans s2)⟩⟩
  cases i with
  | zero => cases e; exact ⟨t, rfl, Same.tup s2 ht⟩
  | succ i => exact hus.2 i ns e
theorem prs_tup {x1} (h : PA X es (tRA K cr)) : PE X (.Tuple es x1 p) (tRs K (cLen cr)) := pe_imp (pe_tup h) fun σ H Q ⟨ws, ⟨h1, h2⟩, q⟩ =>
  ⟨ws, h1, fun us H1 hus s1 => ⟨by rw [hus.1]; exact Nat.le_trans h2 (by decide), fun r hr => q r us _ (SqT.of upd_same) (RwsW.kt K hus (Same.kt (Same.new hr))) (s1.trans (Same.new hr))⟩⟩
theorem pw_mix {x1} {jj} {pp : Pos} (h : PE X e (tRs K cr)) (hs : starEach [e] X.env = [(false, eval e X.env)] := by rfl) : PE X (.Tuple [.Constant (.str "mix") jj pp, e] x1 p) (tW K (cwMix cr)) := pe_imp (pe_tup (pa_cons pe_str (pa_cons h pa_nil hs) rfl)) fun σ H Q ⟨w, ⟨u, hu, ew⟩, q⟩ => by
  subst ew
  exact ⟨u, hu, fun t us H1 ht hv s1 => ⟨by show 2 ≤ sizeLine; decide, fun r hr => q _ _ ⟨r, rfl, t, us, SqT.of upd_same, Same.tup (Same.new hr) ht, RwsW.kt K hv (Same.kt (Same.new hr))⟩ (s1.trans (Same.new hr))⟩⟩
end
end L2.Lw

set_option Elab.async false
set_option linter.all false
set_option maxRecDepth 100000
namespace L2.Lw
open PySem PySem.Spec PyProof.Rows
def Q_pl_rep := (qE_eq ▸ @pl_rep)
def Q_pl_tup := (qA_eq ▸ qE_eq ▸ @pl_tup)
def Q_pn_add := (qE_eq ▸ @pn_add)
def Q_pn_int := (qE_eq ▸ @pn_int)
def Q_pn_name := (qE_eq ▸ @pn_name)
def Q_pna_cons := (qE_eq ▸ qA_eq ▸ @pna_cons)
def Q_pna_nil := (qA_eq ▸ @pna_nil)
def Q_pns_rep := (qE_eq ▸ @pns_rep)
def Q_pns_tup := (qA_eq ▸ qE_eq ▸ @pns_tup)
def Q_pra_cons := (qE_eq ▸ qA_eq ▸ @pra_cons)
def Q_pra_nil := (qA_eq ▸ @pra_nil)
def Q_prs_tup := (qA_eq ▸ qE_eq ▸ @prs_tup)
def Q_pw_bes := (qE_eq ▸ @pw_bes)
def Q_pw_copy := (qE_eq ▸ @pw_copy)
def Q_pw_lag := (qE_eq ▸ @pw_lag)
def Q_pw_mix := (qE_eq ▸ @pw_mix)
def Q_pw_name := (qE_eq ▸ @pw_name)
def Q_pw_rng := (qE_eq ▸ @pw_rng)
def Q_pw_sum := (qE_eq ▸ @pw_sum)
def Q_pw_thn := (qE_eq ▸ @pw_thn)
def Q_pw_trn := (qE_eq ▸ @pw_trn)
def Q_pw_wire := (qE_eq ▸ @pw_wire)
def Q_pwa_cons := (qE_eq ▸ qA_eq ▸ @pwa_cons)
def Q_pwa_nil := (qA_eq ▸ @pwa_nil)
end L2.Lw

set_option Elab.async false
set_option linter.all false
set_option maxRecDepth 100000
namespace L2.Lw
open PySem PySem.Spec PyProof.Rows
def top (i : Nat) : Stmt := PySem.Challenge.pw_lagworks_k16_ends_that_do_not_fit.main.body.getD i (.Pass ⟨0, 0, 0, 0⟩)
abbrev s_is_number : Stmt := top 17
abbrev s_is_weight : Stmt := top 18
abbrev s_is_copies : Stmt := top 19
abbrev s_is_filled : Stmt := top 21
abbrev s_is_weights : Stmt := top 22
abbrev s_is_rows : Stmt := top 23
abbrev s_is_order : Stmt := top 24
abbrev s_word_of : Stmt := top 27
abbrev s_is_box : Stmt := top 28
abbrev s_parts_of : Stmt := top 29
abbrev s_boxes_of : Stmt := top 30
abbrev s_box_ends : Stmt := top 33
abbrev s_then_ends : Stmt := top 34
abbrev s_beside_ends : Stmt := top 35
abbrev s_turned_ends : Stmt := top 36
abbrev s_ring_ends : Stmt := top 37
abbrev s_ends_of : Stmt := top 39
abbrev s_plain_boxes : Stmt := top 40
abbrev s_shape : Stmt := top 41
abbrev s_boxes : Stmt := top 42
abbrev s_lags : Stmt := top 43
abbrev s_law_bag : Stmt := top 45
abbrev s_law_pull : Stmt := top 46
abbrev s_law_of : Stmt := top 47
abbrev s_law_box : Stmt := top 48
abbrev s_law_layer : Stmt := top 49
abbrev s_law_wiring : Stmt := top 50
abbrev s_law_any_wiring : Stmt := top 51
abbrev s_law_misfit : Stmt := top 52
abbrev s_law_tried : Stmt := top 53
abbrev s_law_same : Stmt := top 54
abbrev s_law : Stmt := top 55
abbrev c_LagError : Stmt := top 1
abbrev c_Unshaped : Stmt := top 4
/-- the law's bag: the script's numbers, a place, a number that is being cut, a salt, a count -/
def BagV (H : Hp) (b l : Addr) (ns : List Int) (i c s n : Int) : Prop := H b = some (.lst [.ref l, .int i, .int c, .int s, .int n]) ∧ H l = some (.lst (ns.map V.int)) ∧ 0 ≤ i ∧ 0 ≤ c ∧ 0 ≤ s ∧ s < 2147483563
def Bag (H : Hp) (b l : Addr) : Prop := ∃ ns i c s n, BagV H b l ns i c s n
def spPull : Sp := fun vs H Q _ => ∃ (b l : Addr) (m : Int), vs = [.ref b, .int m] ∧ Bag H b l ∧ 0 < m ∧ m < 1073741824 ∧ ∀ (d : Int) (H' : Hp), 0 ≤ d → d < m → Bag H' b l → But b H H' → Q (.int d) H'
section
variable {P : Program} {w : World} {K : PySem.W.Frag} {mg : Str → Option Value} {base : Heap}
theorem sc_law_pull : FnScope ["_law_bag_here", "_law_many", "_law_cell", "_law_digit", "_law_s", "_law_t"] ["_law_bag_here", "_law_many"] (defScope s_law_pull) := ⟨rfl, rfl, rfl, by decide +kernel, rfl, by decide +kernel, by decide +kernel⟩
theorem ok_pull (d : Dfn K mg "_law_pull" s_law_pull ["_law_bag_here", "_law_many"]) (T : Bi mg) : Cal P w K mg base "_law_pull" 1 ["_law_bag_here", "_law_many"] spPull (Pla K ["_law_bag_here", "_law_many"]) := by
  refine d.ok sc_law_pull (fun vs H Q E h => ?_) (fun f cdv A outer s H vs Q E hr h => ?_)
  · obtain ⟨b, l, m, rfl, _⟩ := h; rfl
  · obtain ⟨b, l, m, rfl, ⟨ns, i, c, s0, n, hb, hl, hi, hc, hs0, hs1⟩, hm0, hm1, k⟩ := h
    have nd := sc_law_pull.nd
    have nlb : l ≠ b := fun e => by
      subst e; rw [hb] at hl
      have e1 := congrArg (fun o => match o with | some (HO.lst xs) => xs | _ => []) hl
      cases ns <;> simp at e1
    refine ⟨_, (pss_cons (ps_asg (pe_op op_add (pe_ix ix_list (pv 0) pe_int (fun _ _ => rfl)) pe_int) (pg_sub (pv 0) pe_int set_list))
      (pss_cons (ps_cut (fun σ' H' => ∃ i' c' s' v, σ' = [some (.ref b), some (.int m), v, none, none, none] ∧ BagV H' b l ns i' c' s' (n + 1) ∧ But b H H') (ps_if (PW.pt (pw_and (pt_cmpR op_eq (pe_ix ix_list (pv 0) pe_int (fun _ _ => rfl)) pe_int (nomark _)) (pw_and1 (pt_cmpR op_lt (pe_ix ix_list (pv 0) pe_int (fun _ _ => rfl)) (pe_callB call_len_seq (by rfl) T.len (by decide +kernel) (pa_cons (pe_ix ix_list (pv 0) pe_int (fun _ _ => rfl)) pa_nil)) (nomark _))))) (pss_cons (ps_set (i := 2) nd rfl (Or.inl rfl) (pe_ix ix_list (pe_ix ix_list (pv 0) pe_int (fun _ _ => rfl)) (pe_ix ix_list (pv 0) pe_int (fun _ _ => rfl)) (fun _ _ => rfl)))
      (pss_cons (ps_asg (pe_op op_add (pe_ix ix_list (pv 0) pe_int (fun _ _ => rfl)) pe_int) (pg_sub (pv 0) pe_int set_list))
      (pss_one (ps_if (pt_cmpR op_ge (pv 2) (pe_op op_pow pe_int pe_int) (nomark _)) (pss_one (ps_asg (pv 2) (pg_sub (pv 0) pe_int set_list))) (pss_one (ps_asg (pe_op op_mod (pe_op op_add (pe_op op_add (pe_op op_mul (pe_ix ix_list (pv 0) pe_int (fun _ _ => rfl)) pe_int) (pe_op op_mul (pe_op op_mod (pv 2) pe_int) pe_int)) pe_int) pe_int) (pg_sub (pv 0) pe_int set_list))))))) pss_nil))
      (pss_cons (ps_if (pt_cmpR op_gt (pe_ix ix_list (pv 0) pe_int (fun _ _ => rfl)) pe_int (nomark _)) (pss_cons (ps_set (i := 3) nd rfl (Or.inl rfl) (pe_op op_mod (pe_ix ix_list (pv 0) pe_int (fun _ _ => rfl)) (pv 1)))
      (pss_cons (ps_asg (pe_op op_fdiv (pe_ix ix_list (pv 0) pe_int (fun _ _ => rfl)) (pv 1)) (pg_sub (pv 0) pe_int set_list))
      (pss_one (ps_ret (pv 3))))) pss_nil)
      (pss_cons (ps_set (i := 4) nd rfl (Or.inl rfl) (pe_ix ix_list (pv 0) pe_int (fun _ _ => rfl)))
      (pss_cons (ps_set (i := 5) nd rfl (Or.inl rfl) (pe_op op_add (pe_op op_mul (pe_op op_mod (pe_op op_mul (pv 4) (pv 4)) pe_int) pe_int) (pe_op op_mul (pv 4) pe_int)))
      (pss_cons (ps_asg (pe_op op_mod (pe_op op_add (pe_op op_add (pv 5) pe_int) (pe_ix ix_list (pv 0) pe_int (fun _ _ => rfl))) pe_int) (pg_sub (pv 0) pe_int set_list))
      (pss_cons (ps_set (i := 4) nd rfl (Or.inl rfl) (pe_ix ix_list (pv 0) pe_int (fun _ _ => rfl)))
      (pss_one (ps_ret (pe_op op_mod (pe_op op_add (pe_op op_add (pe_op op_fdiv (pv 4) pe_int) (pe_op op_mul (pe_op op_mod (pv 4) pe_int) pe_int)) (pe_op op_mul (pe_op op_mul (pv 4) (pe_ix ix_list (pv 0) pe_int (fun _ _ => rfl))) pe_int)) (pv 1))))))))))), ?_⟩
    -- the count
    refine ⟨_, rfl, b, _, _, _, rfl, rfl, SqL.of hb, rfl, _, _, rfl, rfl, _, rfl, b, _, _, _, rfl, rfl, hb, rfl, ?_⟩
    refine ⟨?_, ?_⟩
    · generalize e1 : upd H b _ = H1
      have b1 : H1 b = some (.lst [.ref l, .int i, .int c, .int s0, .int (n + 1)]) := by rw [← e1]; exact upd_same
      have k1 : But b H H1 := by rw [← e1]; exact But.upd
      have l1 : H1 l = some (.lst (ns.map V.int)) := k1 _ _ hl nlb
      have stay : BagV H1 b l ns i c s0 (n + 1) := ⟨b1, l1, hi, hc, hs0, hs1⟩
      refine ⟨_, rfl, b, _, _, _, rfl, rfl, SqL.of b1, rfl, rfl, _, rfl, ?_⟩
      refine ite2 (fun _ => ?_) (fun _ => ?_)
      · refine ⟨_, rfl, b, _, _, _, rfl, rfl, SqL.of b1, rfl, _, rfl, b, _, _, _, rfl, rfl, SqL.of b1, rfl, l, _, rfl, .inl (SqL.of l1), _, _, rfl, rfl, _, rfl, ?_⟩
        refine ite2 (fun hlt => ?_) (fun _ => ?_)
        · have hlt' : i < (ns.length : Int) := by simpa using hlt
          obtain ⟨j, rfl⟩ : ∃ j : Nat, i = j := ⟨i.toNat, by omega⟩
          have hj : j < ns.length := by omega
          have ej : (ns.map V.int)[j]? = some (V.int ns[j]) := by rw [List.getElem?_map, List.getElem?_eq_getElem hj]; rfl
          generalize ns[j] = z at ej
          -- the cell; the place
          refine ⟨_, rfl, b, _, _, _, rfl, rfl, SqL.of b1, rfl, _, rfl, b, _, _, _, rfl, rfl, SqL.of b1, rfl, l, _, _, _, rfl, rfl, SqL.of l1, atI_nat ej, ?_⟩
          refine ⟨_, rfl, b, _, _, _, rfl, rfl, SqL.of b1, rfl, _, _, rfl, rfl, _, rfl, b, _, _, _, rfl, rfl, b1, rfl, ?_⟩
          generalize e2 : upd H1 b _ = H2
          have b2 : H2 b = some (.lst [.ref l, .int (j + 1), .int c, .int s0, .int (n + 1)]) := by rw [← e2]; exact upd_same
          have k2 : But b H H2 := k1.trans (by rw [← e2]; exact But.upd)
          have l2 : H2 l = some (.lst (ns.map V.int)) := k2 _ _ hl nlb
          refine ⟨_, rfl, _, _, rfl, rfl, ⟨by decide, by decide, by decide⟩, _, _, rfl, rfl, _, rfl, ?_⟩
          refine ite2 (fun hz => ?_) (fun _ => ?_)
          · have hz' : (10 : Int) ^ 18 ≤ z := by simpa using hz
            refine ⟨_, rfl, _, rfl, b, _, _, _, rfl, rfl, b2, rfl, (j : Int) + 1, z, s0, some (.int z), rfl, ⟨upd_same, ?_, by omega, by omega, hs0, hs1⟩, k2.trans But.upd⟩
            rw [upd_ne nlb]; exact l2
          · refine ⟨_, rfl, b, _, _, _, rfl, rfl, SqL.of b2, rfl, _, _, rfl, rfl, .inl ⟨by omega, by omega⟩, _, rfl, _, _, rfl, rfl, (by show (0 : Int) < 2147483629; decide), _, _, rfl, rfl, .inr ⟨by decide, by decide⟩, _, _, rfl, rfl, _, _, rfl, rfl, _, _, rfl, rfl, (by show (0 : Int) < 2147483563; decide), _, rfl, b, _, _, _, rfl, rfl, b2, rfl, (j : Int) + 1, c, _, some (.int z), rfl, ⟨upd_same, ?_, by omega, hc, Int.emod_nonneg _ (by decide), Int.emod_lt_of_pos _ (by decide)⟩, k2.trans But.upd⟩
            rw [upd_ne nlb]; exact l2
        · exact ⟨i, c, s0, none, rfl, stay, k1⟩
      · refine iteF ?_
        exact ⟨i, c, s0, none, rfl, stay, k1⟩
    · rintro σ' H1 ⟨i', c', s', v, rfl, ⟨b1, l1, hi', hc', hs0', hs1'⟩, k1⟩
      refine ⟨_, rfl, b, _, _, _, rfl, rfl, SqL.of b1, rfl, _, _, rfl, rfl, _, rfl, ?_⟩
      refine ite2 (fun hz => ?_) (fun _ => ?_)
      · have hz' : 0 < c' := by simpa using hz
        refine ⟨_, rfl, b, _, _, _, rfl, rfl, SqL.of b1, rfl, _, rfl, _, _, rfl, rfl, hm0, ?_⟩
        refine ⟨_, rfl, b, _, _, _, rfl, rfl, SqL.of b1, rfl, _, rfl, _, _, rfl, rfl, ⟨hm0, hm1⟩, _, rfl, b, _, _, _, rfl, rfl, b1, rfl, _, rfl, ?_⟩
        refine k _ _ (Int.emod_nonneg _ (by omega)) (Int.emod_lt_of_pos _ hm0) ⟨ns, i', _, s', n + 1, upd_same, ?_, hi', Int.ediv_nonneg hc' (by omega), hs0', hs1'⟩ (k1.trans But.upd)
        rw [upd_ne nlb]; exact l1
      · refine ⟨_, rfl, b, _, _, _, rfl, rfl, SqL.of b1, rfl, ?_⟩
        refine ⟨_, rfl, _, rfl, _, _, rfl, rfl, .inl ⟨by omega, by omega⟩, _, _, rfl, rfl, (by show (0 : Int) < 2147483629; decide), _, _, rfl, rfl, .inr ⟨by decide, by decide⟩, _, rfl, _, _, rfl, rfl, .inr ⟨by decide, by decide⟩, _, _, rfl, rfl, ?_⟩
        refine ⟨_, rfl, _, _, rfl, rfl, _, rfl, b, _, _, _, rfl, rfl, SqL.of b1, rfl, _, _, rfl, rfl, _, _, rfl, rfl, (by show (0 : Int) < 2147483563; decide), _, rfl, b, _, _, _, rfl, rfl, b1, rfl, ?_⟩
        generalize e2 : upd H1 b _ = H2
        obtain ⟨q, q0, q1, b2⟩ : ∃ q : Int, 0 ≤ q ∧ q < 2147483563 ∧ H2 b = some (.lst [.ref l, .int i', .int c', .int q, .int (n + 1)]) :=
          ⟨_, Int.emod_nonneg _ (show (2147483563 : Int) ≠ 0 by decide), Int.emod_lt_of_pos _ (show (0 : Int) < 2147483563 by decide), by rw [← e2]; exact upd_same⟩
        have k2 : But b H H2 := k1.trans (by rw [← e2]; exact But.upd)
        have l2 : H2 l = some (.lst (ns.map V.int)) := k2 _ _ hl nlb
        refine ⟨_, rfl, b, _, _, _, rfl, rfl, SqL.of b2, rfl, ?_⟩
        refine ⟨_, rfl, _, _, rfl, rfl, ⟨by decide, by decide⟩, _, rfl, _, _, rfl, rfl, (by show (0 : Int) < 7919; decide), _, _, rfl, rfl, .inr ⟨by decide, by decide⟩, _, _, rfl, rfl, _, rfl, _, rfl, b, _, _, _, rfl, rfl, SqL.of b2, rfl, _, _, rfl, rfl, .inl ⟨by omega, by omega⟩, _, _, rfl, rfl, .inr ⟨by decide, by decide⟩, _, _, rfl, rfl, _, rfl, _, _, rfl, rfl, hm0, ?_⟩
        exact k _ _ (Int.emod_nonneg _ (by omega)) (Int.emod_lt_of_pos _ hm0) ⟨ns, i', c', q, n + 1, b2, l2, hi', hc', q0, q1⟩ k2
end
end L2.Lw

set_option Elab.async false
set_option linter.all false
set_option maxRecDepth 100000
namespace L2.Lw
open PySem PySem.Spec PyProof.Rows
theorem cutV_ints (ns : List Int) (lo hi : Option Int) : cutV (ns.map V.int) lo hi = ((ns.drop (HT.sIx ns.length 0 lo)).take (HT.sIx ns.length ns.length hi - HT.sIx ns.length 0 lo)).map V.int := by
  unfold cutV; rw [List.length_map, List.map_take, List.map_drop]
theorem cut63 (ns : List Int) (h : ns.length ≤ 63) : cutV (ns.map V.int) none (some 63) = ns.map V.int := by
  rw [cutV_ints]
  have e : HT.sIx ns.length ns.length (some 63) = ns.length := by show (if (63 : Int) < 0 then (63 + (ns.length : Int)).toNat else min (63 : Int).toNat ns.length) = ns.length; rw [if_neg (by decide)]; omega
  rw [e]; show ((ns.drop 0).take (ns.length - 0)).map V.int = _; simp
theorem Bag.same {H H' : Hp} {b l : Addr} (h : Bag H b l) (k : Same H H') : Bag H' b l := by
  obtain ⟨ns, i, c, s, n, h1, h2, r⟩ := h; exact ⟨ns, i, c, s, n, k _ _ h1, k _ _ h2, r⟩
theorem Bag.but {H H' : Hp} {b l d : Addr} (h : Bag H b l) (k : But d H H') (hb : b ≠ d) (hl : l ≠ d) : Bag H' b l := by
  obtain ⟨ns, i, c, s, n, h1, h2, r⟩ := h; exact ⟨ns, i, c, s, n, k _ _ h1 hb, k _ _ h2 hl, r⟩
theorem Bag.ne {H : Hp} {b l a : Addr} {ns : List Int} (h : Bag H b l) (e : H a = some (.lst (ns.map V.int))) : a ≠ b := by
  obtain ⟨ms, i, c, s, n, h1, _⟩ := h
  intro z; subst z; rw [h1] at e
  have e1 := congrArg (fun o => match o with | some (HO.lst xs) => xs | _ => []) e
  cases ns <;> simp at e1
theorem Bag.fresh {H : Hp} {b l p : Addr} (h : Bag H b l) (e : H p = none) : p ≠ b := by
  obtain ⟨ms, i, c, s, n, h1, _⟩ := h
  exact (ne_of_none h1 e).symm
theorem Bag.freshL {H : Hp} {b l p : Addr} (h : Bag H b l) (e : H p = none) : p ≠ l := by
  obtain ⟨ms, i, c, s, n, _, h1, _⟩ := h
  exact (ne_of_none h1 e).symm
def spBag (K : PySem.W.Frag) : Sp := fun vs H Q _ => ∃ (a : Addr) (ns : List Int), vs = [.ref a] ∧ SqL K H a (ns.map V.int) ∧ ns.length ≤ 63 ∧ ∀ (b l : Addr) (H' : Hp), H b = none → H l = none → Bag H' b l → Same H H' → Q (.ref b) H'
def spOf (K : PySem.W.Frag) : Sp := fun vs H Q _ => ∃ (b bl l : Addr) (xs : List V), vs = [.ref b, .ref l] ∧ Bag H b bl ∧ SqL K H l xs ∧ l ≠ b ∧ xs ≠ [] ∧ xs.length < 1000 ∧ ∀ (x : V) (H' : Hp), x ∈ xs → Bag H' b bl → But b H H' → Q x H'
section
variable {P : Program} {w : World} {K : PySem.W.Frag} {mg : Str → Option Value} {base : Heap}
theorem sc_law_bag : FnScope ["_law_script", "_law_salt", "_law_cell"] ["_law_script"] (defScope s_law_bag) := ⟨rfl, rfl, rfl, by decide +kernel, rfl, by decide +kernel, by decide +kernel⟩
theorem ok_bag (d : Dfn K mg "_law_bag" s_law_bag ["_law_script"]) (T : Bi mg) : Cal P w K mg base "_law_bag" 1 ["_law_script"] (spBag K) (Pla K ["_law_script"]) := by
  refine d.ok sc_law_bag (fun vs H Q E h => ?_) (fun f cdv A outer s H vs Q E hr h => ?_)
  · obtain ⟨b, m, rfl, _⟩ := h; rfl
  · obtain ⟨a, ns, rfl, hS, hlen, k⟩ := h
    have nd := sc_law_bag.nd
    refine ⟨_, (pss_cons (ps_set (i := 1) nd rfl (Or.inl rfl) (pe_op op_add pe_int (pe_callB call_len_seq (by rfl) T.len (by decide +kernel) (pa_cons (pe_slice sl_list (pv 0) po_none (po_some pe_int)) pa_nil))))
      (pss_cons (ps_for PassesOwn.never rfl (pi_list (pe_slice sl_list (pv 0) po_none (po_some pe_int))) (pg_name (i := 2) nd rfl (Or.inl rfl)) (pss_one (ps_set (i := 1) nd rfl (Or.inl rfl) (pe_op op_mod (pe_op op_add (pe_op op_mul (pv 1) pe_int) (pv 2)) pe_int))))
      (pss_one (ps_ret (pe_lst (pa_cons (pe_callTy call_list_of (by rfl) T.list (by decide +kernel) (pa_cons (pe_slice sl_list (pv 0) po_none (po_some pe_int)) pa_nil)) (pa_cons pe_int (pa_cons pe_int (pa_cons (pv 1) (pa_cons pe_int pa_nil)))))))))), ?_⟩
    refine ⟨_, rfl, _, rfl, a, _, rfl, hS, fun p hp => ⟨p, _, rfl, .inl (SqL.of upd_same), _, _, rfl, rfl, ?_⟩⟩
    have s1 : Same H (upd H p (.lst (cutV (ns.map V.int) none (some 63)))) := Same.new hp
    rw [cut63 ns hlen] at s1 ⊢
    generalize upd H p (.lst (ns.map V.int)) = H1 at s1 ⊢
    refine ⟨_, rfl, _, rfl, a, _, rfl, s1.seq hS, fun q hq => ⟨q, rfl, ⟨_, SqL.of upd_same⟩, ?_⟩⟩
    have s2 : Same H1 (upd H1 q (.lst (cutV (ns.map V.int) none (some 63)))) := Same.new hq
    have hq2 : (upd H1 q (.lst (cutV (ns.map V.int) none (some 63)))) q = some (.lst (cutV (ns.map V.int) none (some 63))) := upd_same
    rw [cut63 ns hlen] at s2 hq2 ⊢
    generalize upd H1 q (.lst (ns.map V.int)) = H2 at s2 hq2 ⊢
    have s3 := s1.trans s2
    refine for_list (K := K) (a := q) (xs := ns.map V.int) (fun i σ H' => ∃ (z : Int) (v : Option V), σ = [some (.ref a), some (.int z), v] ∧ 0 ≤ z ∧ z < 2147483563 ∧ H' = H2) ⟨17 + ns.length, none, by simp [start], by omega, by omega, rfl⟩ (fun i σ H' _ ⟨_, _, _, _, _, e⟩ => by subst e; exact SqL.of hq2) ?_ ?_
    · rintro i y σ H' hi ⟨z, v, rfl, h0, h1, rfl⟩
      obtain ⟨c, rfl, _⟩ := int_at hi
      refine ⟨_, rfl, _, _, rfl, rfl, .inl ⟨by omega, by omega⟩, _, rfl, _, _, rfl, rfl, _, _, rfl, rfl, (by show (0 : Int) < 2147483563; decide), ?_⟩
      exact ⟨_, some (.int c), rfl, Int.emod_nonneg _ (by decide), Int.emod_lt_of_pos _ (by decide), rfl⟩
    · rintro σ H' ⟨z, v, rfl, h0, h1, rfl⟩
      refine ⟨_, rfl, _, rfl, a, _, rfl, s3.seq hS, fun r hr => ⟨r, _, rfl, .inl (SqL.of upd_same), fun l hl => ⟨_, rfl, (by show 5 ≤ sizeLine; decide), fun b hb => ?_⟩⟩⟩
      rw [cut63 ns hlen] at hl hb ⊢
      have s4 : Same H' (upd (upd (upd H' r (.lst (ns.map V.int))) l (.lst (ns.map V.int))) b (.lst [.ref l, .int 0, .int 0, .int z, .int 0])) := (Same.new hr).trans ((Same.new hl).trans (Same.new hb))
      refine k b l _ (s3.free (Same.free (Same.new hr) (Same.free (Same.new hl) hb))) (s3.free (Same.free (Same.new hr) hl)) ⟨ns, 0, 0, z, 0, upd_same, ?_, by decide, by decide, h0, h1⟩ (s3.trans s4)
      rw [upd_ne (ne_of_none upd_same hb), upd_same]
theorem sc_law_of : FnScope ["_law_bag_here", "_law_some"] ["_law_bag_here", "_law_some"] (defScope s_law_of) := ⟨rfl, rfl, rfl, by decide +kernel, rfl, by decide +kernel, by decide +kernel⟩
theorem ok_of (d : Dfn K mg "_law_of" s_law_of ["_law_bag_here", "_law_some"]) (T : Bi mg) (cp : Cal P w K mg base "_law_pull" 1 ["_law_bag_here", "_law_many"] spPull (Pla K ["_law_bag_here", "_law_many"])) : Cal P w K mg base "_law_of" 2 ["_law_bag_here", "_law_some"] (spOf K) (Pla K ["_law_bag_here", "_law_some"]) := by
  refine d.ok sc_law_of (fun vs H Q E h => ?_) (fun f cdv A outer s H vs Q E hr h => ?_)
  · obtain ⟨b, bl, l, xs, rfl, _⟩ := h; rfl
  · obtain ⟨b, bl, l, xs, rfl, hB, hS, hne, hx, hlen, k⟩ := h
    have hpos : 0 < xs.length := List.length_pos_iff.mpr hx
    refine ⟨_, (pss_one (ps_ret (pe_ix ix_list (pv 1) (pcall cp (hr.mono (by decide)) (pa_cons (pv 0) (pa_cons (pe_callB call_len_seq (by rfl) T.len (by decide +kernel) (pa_cons (pv 1) pa_nil)) pa_nil))) (fun _ _ => rfl)))), ?_⟩
    refine ⟨_, rfl, _, rfl, _, rfl, l, _, rfl, .inl hS, b, bl, _, rfl, hB, by omega, by omega, fun z H' h0 h1 hB' kB => ?_⟩
    obtain ⟨j, rfl⟩ : ∃ j : Nat, z = j := ⟨z.toNat, by omega⟩
    have hj : j < xs.length := by omega
    refine ⟨l, _, _, _, rfl, rfl, kB.seq hS hne, atI_nat (List.getElem?_eq_getElem hj), ?_⟩
    exact k _ H' (List.getElem_mem hj) hB' kB
end
end L2.Lw

set_option Elab.async false
set_option linter.all false
set_option maxRecDepth 100000
namespace L2.Lw
open PySem PySem.Spec PyProof.Rows
/-! ### numbers within bounds, filled tuples -/
/-- the constants of parts -/
structure Gp (K : PySem.W.Frag) (mg : Str → Option Value) (uW uC uT uD uB uL : Value) (aL aB : Addr) : Prop where
  g_MOST_WEIGHT : mg "MOST_WEIGHT" = some uW
  r_MOST_WEIGHT : RelV (.int 96) uW
  g_MOST_COPIES : mg "MOST_COPIES" = some uC
  r_MOST_COPIES : RelV (.int 4) uC
  g_MOST_THINGS : mg "MOST_THINGS" = some uT
  r_MOST_THINGS : RelV (.int 12) uT
  g_MOST_DEEP : mg "MOST_DEEP" = some uD
  r_MOST_DEEP : RelV (.int 16) uD
  g_MOST_BOXES : mg "MOST_BOXES" = some uB
  r_MOST_BOXES : RelV (.int 60) uB
  g_MOST_LAGS : mg "MOST_LAGS" = some uL
  r_MOST_LAGS : RelV (.int 8) uL
  g_LAG : mg "LAG" = some (.ref aL)
  r_LAG : RelV (.ref aL) (.ref aL)
  s_LAG : ∀ H, SqT K H aL [.str "lag"]
  g_BARE_BOXES : mg "BARE_BOXES" = some (.ref aB)
  r_BARE_BOXES : RelV (.ref aB) (.ref aB)
  s_BARE : ∀ H, SqT K H aB [.str "wire", .str "lag"]
def spIsNum : Sp := fun vs H Q _ => ∃ n m : Int, vs = [.int n, .int m] ∧ 0 ≤ n ∧ n ≤ m ∧ Q (.bl true) H
def spIsWt : Sp := fun vs H Q _ => ∃ n : Nat, vs = [nV n] ∧ n ≤ 96 ∧ Q (.bl true) H
def spIsCp : Sp := fun vs H Q _ => ∃ n : Nat, vs = [nV n] ∧ n ≤ 4 ∧ Q (.bl true) H
def spIsFil (K : PySem.W.Frag) : Sp := fun vs H Q _ => ∃ (t : Addr) (xs : List V), vs = [.ref t] ∧ SqT K H t xs ∧ 1 ≤ xs.length ∧ xs.length ≤ 12 ∧ Q (.bl true) H
def spIsWts (K : PySem.W.Frag) : Sp := fun vs H Q _ => ∃ (t : Addr) (ns : List Nat), vs = [.ref t] ∧ SqT K H t (ns.map nV) ∧ 1 ≤ ns.length ∧ ns.length ≤ 12 ∧ (∀ n ∈ ns, n ≤ 96) ∧ ∀ H', Same H H' → Q (.bl true) H'
def RwsAt (K : PySem.W.Frag) (H : Hp) (vs : List V) (l : List (List Nat)) : Prop := vs.length = l.length ∧ ∀ (i : Nat) ns, l[i]? = some ns → ∃ c : Addr, vs[i]? = some (V.ref c) ∧ SqT K H c (ns.map nV)
def spIsRws (K : PySem.W.Frag) : Sp := fun vs H Q _ => ∃ (t : Addr) (us : List V) (l : List (List Nat)), vs = [.ref t] ∧ SqT K H t us ∧ RwsAt K H us l ∧ (Bx.mix l).ok ∧ ∀ H', Same H H' → Q (.bl true) H'
def spIsOrd (K : PySem.W.Frag) : Sp := fun vs H Q _ => ∃ (t : Addr) (l : List Nat), vs = [.ref t] ∧ SqT K H t (l.map nV) ∧ (Bx.shuf l).ok ∧ ∀ H', Same H H' → Q (.bl true) H'
theorem kit_tup_tup (K : PySem.W.Frag) : PySem.W.kitOne K (.type "tuple") (.type "tuple") = some true := by kernel_rfl
section
variable {P : Program} {w : World} {K : PySem.W.Frag} {mg : Str → Option Value} {base : Heap} {uW uC uT uD uB uL : Value} {aL aB : Addr}
theorem sc_is_number : FnScope ["thing", "most"] ["thing", "most"] (defScope s_is_number) := ⟨rfl, rfl, rfl, by decide +kernel, rfl, by decide +kernel, by decide +kernel⟩
theorem ok_is_number (d : Dfn K mg "is_number" s_is_number ["thing", "most"]) (T : Bi mg) : Cal P w K mg base "is_number" 1 ["thing", "most"] spIsNum (Pla K ["thing", "most"]) := by
  refine d.ok sc_is_number (fun vs H Q E h => ?_) (fun f cdv A outer s H vs Q E hr h => ?_)
  · obtain ⟨n, m, rfl, _⟩ := h; rfl
  · obtain ⟨n, m, rfl, h0, h1, k⟩ := h
    refine ⟨_, (pss_one (ps_ret (pe_and (pe_callB (isiK1 K) (by rfl) T.isinstance (by decide +kernel) (pa_cons (pv 0) (pa_cons (pe_ty "int" (by rfl) T.int (by decide +kernel)) pa_nil))) (pe_and (pe_not (pe_callB (isiK1 K) (by rfl) T.isinstance (by decide +kernel) (pa_cons (pv 0) (pa_cons (pe_ty "bool" (by rfl) T.bool (by decide +kernel)) pa_nil)))) (pe_one (pe_chain op_le op_le pe_int (pv 0) (pv 1))))))), ?_⟩
    refine ⟨_, rfl, _, "int", "int", true, rfl, .inl (.int n), kit_int_int K, _, rfl, iteT ?_⟩
    refine ⟨_, rfl, _, "bool", "int", false, rfl, .inl (.int n), kit_int_bool K, _, rfl, _, rfl, iteT ?_⟩
    refine ⟨_, rfl, _, _, rfl, rfl, _, rfl, ?_⟩
    rw [decide_eq_true h0]
    refine iteT ⟨_, rfl, _, _, rfl, rfl, ?_⟩
    show Q (.bl (decide (n ≤ m))) H
    rw [decide_eq_true h1]
    exact k
theorem sc_is_weight : FnScope ["thing"] ["thing"] (defScope s_is_weight) := ⟨rfl, rfl, rfl, by decide +kernel, rfl, by decide +kernel, by decide +kernel⟩
theorem ok_is_weight (d : Dfn K mg "is_weight" s_is_weight ["thing"]) (G : Gp K mg uW uC uT uD uB uL aL aB) (c_is_number : Cal P w K mg base "is_number" 1 ["thing", "most"] spIsNum (Pla K ["thing", "most"])) : Cal P w K mg base "is_weight" 2 ["thing"] spIsWt (Pla K ["thing"]) := by
  refine d.ok sc_is_weight (fun vs H Q E h => ?_) (fun f cdv A outer s H vs Q E hr h => ?_)
  · obtain ⟨n, rfl, _⟩ := h; rfl
  · obtain ⟨n, rfl, h0, k⟩ := h
    refine ⟨_, (pss_one (ps_ret (pcall c_is_number (hr.mono (by omega)) (pa_cons (pv 0) (pa_cons (pe_glob (by rfl) G.g_MOST_WEIGHT G.r_MOST_WEIGHT) pa_nil))))), ?_⟩
    exact ⟨_, rfl, (n : Nat), 96, rfl, by omega, by omega, k⟩
theorem sc_is_copies : FnScope ["thing"] ["thing"] (defScope s_is_copies) := ⟨rfl, rfl, rfl, by decide +kernel, rfl, by decide +kernel, by decide +kernel⟩
theorem ok_is_copies (d : Dfn K mg "is_copies" s_is_copies ["thing"]) (G : Gp K mg uW uC uT uD uB uL aL aB) (c_is_number : Cal P w K mg base "is_number" 1 ["thing", "most"] spIsNum (Pla K ["thing", "most"])) : Cal P w K mg base "is_copies" 2 ["thing"] spIsCp (Pla K ["thing"]) := by
  refine d.ok sc_is_copies (fun vs H Q E h => ?_) (fun f cdv A outer s H vs Q E hr h => ?_)
  · obtain ⟨n, rfl, _⟩ := h; rfl
  · obtain ⟨n, rfl, h0, k⟩ := h
    refine ⟨_, (pss_one (ps_ret (pcall c_is_number (hr.mono (by omega)) (pa_cons (pv 0) (pa_cons (pe_glob (by rfl) G.g_MOST_COPIES G.r_MOST_COPIES) pa_nil))))), ?_⟩
    exact ⟨_, rfl, (n : Nat), 4, rfl, by omega, by omega, k⟩
theorem sc_is_filled : FnScope ["thing"] ["thing"] (defScope s_is_filled) := ⟨rfl, rfl, rfl, by decide +kernel, rfl, by decide +kernel, by decide +kernel⟩
theorem ok_is_filled (d : Dfn K mg "is_filled" s_is_filled ["thing"]) (T : Bi mg) (G : Gp K mg uW uC uT uD uB uL aL aB) : Cal P w K mg base "is_filled" 1 ["thing"] (spIsFil K) (Pla K ["thing"]) := by
  refine d.ok sc_is_filled (fun vs H Q E h => ?_) (fun f cdv A outer s H vs Q E hr h => ?_)
  · obtain ⟨t, xs, rfl, _⟩ := h; rfl
  · obtain ⟨t, xs, rfl, ht, h1, h2, k⟩ := h
    refine ⟨_, (pss_one (ps_ret (pe_and (pe_callB (isiK1 K) (by rfl) T.isinstance (by decide +kernel) (pa_cons (pv 0) (pa_cons (pe_ty "tuple" (by rfl) T.tuple (by decide +kernel)) pa_nil))) (pe_one (pe_chain op_le op_le pe_int (pe_callB (lenS K) (by rfl) T.len (by decide +kernel) (pa_cons (pv 0) pa_nil)) (pe_glob (by rfl) G.g_MOST_THINGS G.r_MOST_THINGS)))))), ?_⟩
    refine ⟨_, rfl, _, "tuple", "tuple", true, rfl, .inr ⟨rfl, t, xs, rfl, ht⟩, kit_tup_tup K, _, rfl, iteT ?_⟩
    refine ⟨_, rfl, t, xs, rfl, .inr ht, _, _, rfl, rfl, _, rfl, ?_⟩
    rw [decide_eq_true (show (1 : Int) ≤ ((xs.length : Nat) : Int) by omega)]
    refine iteT ⟨_, _, rfl, rfl, ?_⟩
    show Q (.bl (decide (((xs.length : Nat) : Int) ≤ 12))) H
    rw [decide_eq_true (show ((xs.length : Nat) : Int) ≤ 12 by omega)]
    exact k
end
end L2.Lw

set_option Elab.async false
set_option linter.all false
set_option maxRecDepth 100000
namespace L2.Lw
open PySem PySem.Spec PyProof.Rows
/-! ### rows of a mix, the order of a shuffle -/
theorem map_nV (ns : List Nat) : ns.map nV = (ns.map fun n => ((n : Nat) : Int)).map V.int := by rw [List.map_map]; rfl
def dLI (ns : List Int) : PyData := .list (ns.map PyData.int)
theorem shaped_dLI (ns : List Int) : SeqAt.shaped (dLI ns) = true := by
  unfold SeqAt.shaped dLI
  have h := depth_ints ns
  rw [Bool.and_eq_true]
  exact ⟨by simp only [PyData.canLay0, lay_ints], decide_eq_true (by simp only [PyData.depth]; omega)⟩
theorem eqv_dLI (a b : List Int) : PyData.eqv (dLI a) (dLI b) = decide (a = b) := by unfold dLI; simp only [PyData.eqv, eqv_ints]
theorem rEqLI {K : PySem.W.Frag} {H : Hp} {a b : Addr} {ns ms : List Int} {Q : VK} (h : SqL K H a (ns.map V.int)) (k : SqL K H b (ms.map V.int)) (q : Q (.bl (decide (ns = ms))) H) : rEqD K (.ref a) (.ref b) H Q :=
  ⟨_, _, .lst h (dpI K H ns), .lst k (dpI K H ms), shaped_dLI _, shaped_dLI _, by show Q (V.bl ((dLI ns).eqv (dLI ms))) H; rw [eqv_dLI]; exact q⟩
section
variable {P : Program} {w : World} {K : PySem.W.Frag} {mg : Str → Option Value} {base : Heap} {uW uC uT uD uB uL : Value} {aL aB : Addr}
theorem sc_is_weights : FnScope ["thing", "number"] ["thing"] (defScope s_is_weights) := ⟨rfl, rfl, rfl, by decide +kernel, rfl, by decide +kernel, by decide +kernel⟩
theorem ok_is_weights (d : Dfn K mg "is_weights" s_is_weights ["thing"]) (T : Bi mg) (c_is_filled : Cal P w K mg base "is_filled" 1 ["thing"] (spIsFil K) (Pla K ["thing"])) (c_is_weight : Cal P w K mg base "is_weight" 2 ["thing"] spIsWt (Pla K ["thing"])) : Cal P w K mg base "is_weights" 3 ["thing"] (spIsWts K) (Pla K ["thing"]) := by
  refine d.ok sc_is_weights (fun vs H Q E h => ?_) (fun f cdv A outer s H vs Q E hr h => ?_)
  · obtain ⟨t, ns, rfl, _⟩ := h; rfl
  · obtain ⟨t, ns, rfl, ht, h1, h2, h3, k⟩ := h
    have nd := sc_is_weights.nd
    refine ⟨_, (pss_one (ps_ret (pe_and (pcall c_is_filled (hr.mono (by omega)) (pa_cons (pv 0) pa_nil)) (pe_one (pe_callB (allK K) (by rfl) T.all (by decide +kernel) (pa_cons (pe_lc (own := [("number", 1)]) (g := _) (by rfl) nd (piT K (pv 0)) (blkOk_by (own := [("number", 1)]) (N := ["thing", "number"]) (sc := defScope s_is_weights) (by decide +kernel)) (fun _ _ _ _ _ => (pg_name (i := 1) nd rfl (by first | exact Or.inl rfl | exact Or.inr rfl))) (fun _ _ _ _ _ => pts_nil) (fun _ _ _ _ _ => (pcall c_is_weight (hr.mono (by omega)) (pa_cons (pv 1) pa_nil)))) pa_nil)))))), ?_⟩
    refine ⟨_, rfl, t, _, rfl, ht, by rw [List.length_map]; exact h1, by rw [List.length_map]; exact h2, _, rfl, iteT ?_⟩
    refine ⟨_, rfl, t, rfl, ⟨_, ht⟩, fun D hD => ?_⟩
    rw [map_nV] at ht
    refine lcI_tup (K := K) (a := t) (ms := ns.map fun n => ((n : Nat) : Int)) (j := 1) (fun _ => V.bl true) ht hD (by rw [List.length_map]; omega) (fun z H3 Q3 hz s3 q3 => ?_) fun H3 s3 e3 => ?_
    · obtain ⟨n, hn, rfl⟩ := List.mem_map.mp hz
      exact ⟨_, rfl, n, rfl, h3 n hn, q3 H3 (Same.refl _)⟩
    · refine ⟨D, ns.map fun _ => true, rfl, SqL.of (by rw [e3, List.map_map, List.map_map]; rfl), ?_⟩
      rw [show (ns.map fun _ => true).all id = true by simp]
      exact k H3 s3
theorem sc_is_rows : FnScope ["thing", "row"] ["thing"] (defScope s_is_rows) := ⟨rfl, rfl, rfl, by decide +kernel, rfl, by decide +kernel, by decide +kernel⟩
theorem ok_is_rows (d : Dfn K mg "is_rows" s_is_rows ["thing"]) (T : Bi mg) (c_is_filled : Cal P w K mg base "is_filled" 1 ["thing"] (spIsFil K) (Pla K ["thing"])) (c_is_weights : Cal P w K mg base "is_weights" 3 ["thing"] (spIsWts K) (Pla K ["thing"])) : Cal P w K mg base "is_rows" 4 ["thing"] (spIsRws K) (Pla K ["thing"]) := by
  refine d.ok sc_is_rows (fun vs H Q E h => ?_) (fun f cdv A outer s H vs Q E hr h => ?_)
  · obtain ⟨t, us, l, rfl, _⟩ := h; rfl
  · obtain ⟨t, us, l, rfl, ht, hr', ⟨h1, h2, h3, h4⟩, k⟩ := h
    have nd := sc_is_rows.nd
    have lu := hr'.1
    refine ⟨_, (pss_cons (ps_if (PW.pt (pw_or (pt_not (pt_val (pcall c_is_filled (hr.mono (by omega)) (pa_cons (pv 0) pa_nil)))) (pw_or1 (pt_not (pt_val (pe_callB (allK K) (by rfl) T.all (by decide +kernel) (pa_cons (pe_lc (own := [("row", 1)]) (g := _) (by rfl) nd (piT K (pv 0)) (blkOk_by (own := [("row", 1)]) (N := ["thing", "row"]) (sc := defScope s_is_rows) (by decide +kernel)) (fun _ _ _ _ _ => (pg_name (i := 1) nd rfl (by first | exact Or.inl rfl | exact Or.inr rfl))) (fun _ _ _ _ _ => pts_nil) (fun _ _ _ _ _ => (pcall c_is_weights (hr.mono (by omega)) (pa_cons (pv 1) pa_nil)))) pa_nil))))))) (pss_one (ps_ret pe_bl)) pss_nil)
      (pss_one (ps_ret (pe_callB (allK K) (by rfl) T.all (by decide +kernel) (pa_cons (pe_lc (own := [("row", 1)]) (g := _) (by rfl) nd (piT K (pv 0)) (blkOk_by (own := [("row", 1)]) (N := ["thing", "row"]) (sc := defScope s_is_rows) (by decide +kernel)) (fun _ _ _ _ _ => (pg_name (i := 1) nd rfl (by first | exact Or.inl rfl | exact Or.inr rfl))) (fun _ _ _ _ _ => pts_nil) (fun _ _ _ _ _ => (pe_cmpR op_eq (pe_callB (lenS K) (by rfl) T.len (by decide +kernel) (pa_cons (pv 1) pa_nil)) (pe_callB (lenS K) (by rfl) T.len (by decide +kernel) (pa_cons (pe_ix (ixT K) (pv 0) pe_int (fun _ _ => rfl)) pa_nil)) (nomark _)))) pa_nil))))), ?_⟩
    refine ⟨_, rfl, t, us, rfl, ht, by omega, by omega, _, rfl, iteF ?_⟩
    have at_ : ∀ {i : Nat} {x : V}, us[i]? = some x → ∃ (c : Addr) (ns : List Nat), x = .ref c ∧ ns ∈ l ∧ SqT K H c (ns.map nV) := fun {i x} e => by
      have hi := (List.getElem?_eq_some_iff.mp e).1
      obtain ⟨c, e2, q⟩ := hr'.2 i _ (List.getElem?_eq_getElem (by omega : i < l.length))
      rw [e] at e2
      exact ⟨c, _, Option.some.inj e2, List.getElem_mem _, q⟩
    refine ⟨_, rfl, t, rfl, ⟨_, ht⟩, fun D hD => ?_⟩
    refine lcN_tup (K := K) (a := t) (xs := us) (j := 1) (fun _ => V.bl true) ht hD (by omega) (fun i x H3 Q3 hx s3 q3 => ?_) fun H3 s3 e3 => ?_
    · obtain ⟨c, ns, rfl, hn, q⟩ := at_ hx
      obtain ⟨n1, n2, n3⟩ := h3 ns hn
      exact ⟨_, rfl, c, ns, rfl, Same.tup s3 q, n1, n2, n3, fun H4 s4 => q3 H4 s4⟩
    · refine ⟨D, (List.range us.length).map fun _ => true, rfl, SqL.of (by rw [e3, List.map_map]; rfl), ?_⟩
      rw [show ((List.range us.length).map fun _ => true).all id = true by simp]
      refine ⟨_, rfl, iteF ?_⟩
      refine ⟨_, rfl, t, rfl, ⟨_, Same.tup s3 ht⟩, fun D2 hD2 => ?_⟩
      refine lcN_tup (K := K) (a := t) (xs := us) (j := 1) (fun _ => V.bl true) (Same.tup s3 ht) hD2 (by omega) (fun i x H4 Q4 hx s4 q4 => ?_) fun H4 s4 e4 => ?_
      · obtain ⟨c, ns, rfl, hn, q⟩ := at_ hx
        have hl0 : ∃ c0 ns0, us[0]? = some (V.ref c0) ∧ ns0 = l.headD [] ∧ SqT K H c0 (ns0.map nV) := by
          cases l with
          | nil => simp at h1
          | cons a l =>
            obtain ⟨c0, e0, q0⟩ := hr'.2 0 a rfl
            exact ⟨c0, a, e0, rfl, q0⟩
        obtain ⟨c0, ns0, e0, rfl, q0⟩ := hl0
        have s34 := s3.trans s4
        refine ⟨_, rfl, c, _, rfl, .inr (Same.tup s34 q), _, rfl, t, us, _, _, rfl, rfl, Same.tup s34 ht, atI_nat e0, c0, _, rfl, .inr (Same.tup s34 q0), ?_⟩
        refine ⟨rfl, ?_⟩
        rw [decide_eq_true (by rw [List.length_map, List.length_map, h4 ns hn])]
        exact q4 H4 (Same.refl _)
      · refine ⟨D2, (List.range us.length).map fun _ => true, rfl, SqL.of (by rw [e4, List.map_map]; rfl), ?_⟩
        rw [show ((List.range us.length).map fun _ => true).all id = true by simp]
        exact k H4 (s3.trans s4)
theorem sc_is_order : FnScope ["thing", "number"] ["thing"] (defScope s_is_order) := ⟨rfl, rfl, rfl, by decide +kernel, rfl, by decide +kernel, by decide +kernel⟩
theorem ok_is_order (d : Dfn K mg "is_order" s_is_order ["thing"]) (T : Bi mg) (hsorted : mg "sorted" = none) (c_is_filled : Cal P w K mg base "is_filled" 1 ["thing"] (spIsFil K) (Pla K ["thing"])) (c_is_number : Cal P w K mg base "is_number" 1 ["thing", "most"] spIsNum (Pla K ["thing", "most"])) : Cal P w K mg base "is_order" 2 ["thing"] (spIsOrd K) (Pla K ["thing"]) := by
  refine d.ok sc_is_order (fun vs H Q E h => ?_) (fun f cdv A outer s H vs Q E hr h => ?_)
  · obtain ⟨t, l, rfl, _⟩ := h; rfl
  · obtain ⟨t, l, rfl, ht, ⟨h1, h2, h3⟩, k⟩ := h
    have nd := sc_is_order.nd
    refine ⟨_, (pss_cons (ps_if (PW.pt (pw_or (pt_not (pt_val (pcall c_is_filled (hr.mono (by omega)) (pa_cons (pv 0) pa_nil)))) (pw_or1 (pt_not (pt_val (pe_callB (allK K) (by rfl) T.all (by decide +kernel) (pa_cons (pe_lc (own := [("number", 1)]) (g := _) (by rfl) nd (piT K (pv 0)) (blkOk_by (own := [("number", 1)]) (N := ["thing", "number"]) (sc := defScope s_is_order) (by decide +kernel)) (fun _ _ _ _ _ => (pg_name (i := 1) nd rfl (by first | exact Or.inl rfl | exact Or.inr rfl))) (fun _ _ _ _ _ => pts_nil) (fun _ _ _ _ _ => (pcall c_is_number (hr.mono (by omega)) (pa_cons (pv 1) (pa_cons (pe_op op_sub (pe_callB (lenS K) (by rfl) T.len (by decide +kernel) (pa_cons (pv 0) pa_nil)) pe_int) pa_nil))))) pa_nil))))))) (pss_one (ps_ret pe_bl)) pss_nil)
      (pss_one (ps_ret (pe_cmpR (op_eqD hr.units) (pe_callB (cr_sortedT (K := K) rfl) (by rfl) hsorted (by decide +kernel) (pa_cons (pv 0) pa_nil)) (pe_listR (by rfl) (by rfl) T.list (by rfl) T.range (pa_cons (pe_callB (lenS K) (by rfl) T.len (by decide +kernel) (pa_cons (pv 0) pa_nil)) pa_nil)) (nomark _))))), ?_⟩
    refine ⟨_, rfl, t, _, rfl, ht, by rw [List.length_map]; exact h1, by rw [List.length_map]; exact h2, _, rfl, iteF ?_⟩
    refine ⟨_, rfl, t, rfl, ⟨_, ht⟩, fun D hD => ?_⟩
    have ht' := ht
    rw [map_nV] at ht'
    refine lcI_tup (K := K) (a := t) (ms := l.map fun n => ((n : Nat) : Int)) (j := 1) (fun _ => V.bl true) ht' hD (by rw [List.length_map]; omega) (fun z H3 Q3 hz s3 q3 => ?_) fun H3 s3 e3 => ?_
    · obtain ⟨n, hn, rfl⟩ := List.mem_map.mp hz
      have hn2 : n < l.length := by have := h3.mem_iff.mp hn; rwa [List.mem_range] at this
      refine ⟨_, rfl, _, rfl, t, _, rfl, .inr (Same.tup s3 ht), _, _, rfl, rfl, _, _, rfl, by omega, ?_, q3 H3 (Same.refl _)⟩
      rw [List.length_map]; omega
    · refine ⟨D, l.map fun _ => true, rfl, SqL.of (by rw [e3, List.map_map, List.map_map]; rfl), ?_⟩
      rw [show (l.map fun _ => true).all id = true by simp]
      refine ⟨_, rfl, iteF ?_⟩
      refine ⟨_, rfl, t, _, rfl, Same.tup s3 ht', by rw [List.length_map]; omega, fun ns p pm ps hp => ?_⟩
      have s4 := Same.new (o := .lst (ns.map V.int)) hp
      have e4 : (upd H3 p (.lst (ns.map V.int))) p = some (.lst (ns.map V.int)) := upd_same
      generalize upd H3 p (.lst (ns.map V.int)) = H4 at s4 e4 ⊢
      refine ⟨_, rfl, t, _, rfl, .inr (Same.tup (s3.trans s4) ht), _, rfl, by omega, by rw [List.length_map]; omega, fun p2 hp2 => ?_⟩
      have en : ns = (List.range l.length).map fun i => ((i : Nat) : Int) := by
        refine List.Perm.eq_of_pairwise (fun a b _ _ h1 h2 => Int.le_antisymm h1 h2) ps ?_ (pm.trans (h3.map _))
        rw [List.pairwise_map]
        exact (List.pairwise_lt_range).imp fun h => by omega
      have s5 := Same.new (o := .lst (rangeV ((((l.map nV).length : Nat) : Int)).toNat)) hp2
      have e5 : (upd H4 p2 (.lst (rangeV ((((l.map nV).length : Nat) : Int)).toNat))) p2 = some (.lst (((List.range l.length).map fun i => ((i : Nat) : Int)).map V.int)) := by
        rw [upd_same, List.length_map, Int.toNat_natCast]; unfold rangeV; rw [List.map_map]; rfl
      refine rEqLI (SqL.of (s5 _ _ e4)) (SqL.of e5) ?_
      rw [decide_eq_true en]
      exact k _ (s3.trans (s4.trans s5))
end
end L2.Lw

set_option Elab.async false
set_option linter.all false
set_option maxRecDepth 100000
namespace L2.Lw
open PySem PySem.Spec PyProof.Rows
/-! ### words, boxes, parts -/
def Bx.word : Bx → Str
  | .wire => "wire" | .lag => "lag" | .weigh _ => "weigh" | .copy _ => "copy" | .sum _ => "sum" | .shuf _ => "shuffle" | .mix _ => "mix"
def Wt.word : Wt → Str
  | .box b => b.word | .trn _ => "turned" | .rng _ => "ring" | .thn _ => "then" | .bes _ => "beside"
def Wt.parts : Wt → List Wt
  | .box _ => [] | .trn w => [w] | .rng w => [w] | .thn ws => ws | .bes ws => ws
def spWord (K : PySem.W.Frag) : Sp := fun vs H Q _ => ∃ (a : Addr) (x : Str) (rest : List V), vs = [.ref a] ∧ SqT K H a (.str x :: rest) ∧ Q (.str x) H
def spParts (K : PySem.W.Frag) : Sp := fun vs H Q _ => ∃ (w : Wt) (v : V), vs = [v] ∧ Wr K H w v ∧ w.parts.length ≤ 12 ∧ (∀ ws, w = .thn ws ∨ w = .bes ws → 1 ≤ ws.length) ∧ ∀ (t : Addr) (us : List V) H', SqT K H' t us → WrAll K H' w.parts us → Same H H' → Q (.ref t) H'
def spIsBox (K : PySem.W.Frag) : Sp := fun vs H Q _ => ∃ (a : Addr) (b : Bx), vs = [.ref a] ∧ BxAt K H a b ∧ b.ok ∧ ∀ H', Same H H' → Q (.bl true) H'
/-- the dict of the boxes that hold a thing -/
def kvF (f1 f2 f3 f4 f5 : Addr) : List (Key × V) := [(.inr "weigh", .ref f1), (.inr "copy", .ref f2), (.inr "sum", .ref f2), (.inr "mix", .ref f3), (.inr "shuffle", .ref f4), (.inr "use", .ref f5)]
structure Gf (P : Program) (w : World) (K : PySem.W.Frag) (mg : Str → Option Value) (aF f1 f2 f3 f4 f5 : Addr) : Prop where
  g_FILLED_BOXES : mg "FILLED_BOXES" = some (.ref aF)
  m_FILLED_BOXES : MDk P w K aF (kvF f1 f2 f3 f4 f5)
  m1 : mg "is_weight" = some (.ref f1)
  m2 : mg "is_copies" = some (.ref f2)
  m3 : mg "is_rows" = some (.ref f3)
  m4 : mg "is_order" = some (.ref f4)
theorem Cal.fnv {P : Program} {w : World} {K : PySem.W.Frag} {mg : Str → Option Value} {base : Heap} {x : Str} {k j : Nat} {ps : List Str} {sp : Sp} {f : Addr} (c : Cal P w K mg base x k ps sp (Pla K ps)) (h : mg x = some (.ref f)) (hk : k ≤ j) : FnV P w K mg base f j sp := by
  obtain ⟨f', fd, F, m, kp, b⟩ := c.ex
  rw [h] at m
  cases m
  exact ⟨fd, ps, F.mono hk, kp, b⟩
theorem BxAt.hd {K : PySem.W.Frag} {H : Hp} {a : Addr} : ∀ {b : Bx}, BxAt K H a b → ∃ rest, SqT K H a (.str b.word :: rest)
  | .wire, h => ⟨_, h⟩
  | .lag, h => ⟨_, h⟩
  | .weigh _, h => ⟨_, h⟩
  | .copy _, h => ⟨_, h⟩
  | .sum _, h => ⟨_, h⟩
  | .shuf _, ⟨_, h, _⟩ => ⟨_, h⟩
  | .mix _, ⟨_, _, h, _⟩ => ⟨_, h⟩
theorem Wr.hd {K : PySem.W.Frag} {H : Hp} : ∀ {w : Wt} {v : V}, Wr K H w v → ∃ a rest, v = .ref a ∧ SqT K H a (.str w.word :: rest)
  | .box _, _, ⟨a, e, h⟩ => let ⟨r, q⟩ := h.hd; ⟨a, r, e, q⟩
  | .trn _, _, ⟨a, _, e, h, _⟩ => ⟨a, _, e, h⟩
  | .rng _, _, ⟨a, _, e, h, _⟩ => ⟨a, _, e, h⟩
  | .thn _, _, ⟨a, _, _, e, h, _⟩ => ⟨a, _, e, h⟩
  | .bes _, _, ⟨a, _, _, e, h, _⟩ => ⟨a, _, e, h⟩
theorem atI_zero {x : V} {xs : List V} : atI (x :: xs) 0 = some x := atI_nat (j := 0) rfl
theorem atI_one {x y : V} {xs : List V} : atI (x :: y :: xs) 1 = some y := atI_nat (j := 1) rfl
section
variable {f1 f2 f3 f4 f5 : Addr}
theorem kvF1 : valV (kvF f1 f2 f3 f4 f5) (.inr "weigh") = some (.ref f1) := by rfl
theorem kvF2 : valV (kvF f1 f2 f3 f4 f5) (.inr "copy") = some (.ref f2) := by rfl
theorem kvF3 : valV (kvF f1 f2 f3 f4 f5) (.inr "sum") = some (.ref f2) := by rfl
theorem kvF4 : valV (kvF f1 f2 f3 f4 f5) (.inr "mix") = some (.ref f3) := by rfl
theorem kvF5 : valV (kvF f1 f2 f3 f4 f5) (.inr "shuffle") = some (.ref f4) := by rfl
end
section
variable {P : Program} {w : World} {K : PySem.W.Frag} {mg : Str → Option Value} {base : Heap} {uW uC uT uD uB uL : Value} {aL aB aF f1 f2 f3 f4 f5 : Addr}
theorem sc_word_of : FnScope ["part"] ["part"] (defScope s_word_of) := ⟨rfl, rfl, rfl, by decide +kernel, rfl, by decide +kernel, by decide +kernel⟩
theorem ok_word_of (d : Dfn K mg "word_of" s_word_of ["part"]) (T : Bi mg) : Cal P w K mg base "word_of" 1 ["part"] (spWord K) (Pla K ["part"]) := by
  refine d.ok sc_word_of (fun vs H Q E h => ?_) (fun f cdv A outer s H vs Q E hr h => ?_)
  · obtain ⟨a, x, rest, rfl, _⟩ := h; rfl
  · obtain ⟨a, x, rest, rfl, ha, k⟩ := h
    have nd := sc_word_of.nd
    refine ⟨_, (pss_cons (ps_if (PW.pt (pw_or (pt_not (pt_val (pe_callB (isiK1 K) (by rfl) T.isinstance (by decide +kernel) (pa_cons (pv 0) (pa_cons (pe_ty "tuple" (by rfl) T.tuple (by decide +kernel)) pa_nil))))) (pw_or (pt_not (pt_truth (pv 0) (by intro _; rfl))) (pw_or1 (pt_not (pt_val (pe_callB (isiK1 K) (by rfl) T.isinstance (by decide +kernel) (pa_cons (pe_ix (ixT K) (pv 0) pe_int (fun _ _ => rfl)) (pa_cons (pe_ty "str" (by rfl) T.str (by decide +kernel)) pa_nil))))))))) (pss_one (ps_ret pe_str)) pss_nil)
      (pss_one (ps_ret (pe_ix (ixT K) (pv 0) pe_int (fun _ _ => rfl))))), ?_⟩
    refine ⟨_, rfl, _, "tuple", "tuple", true, rfl, .inr ⟨rfl, a, _, rfl, ha⟩, kit_tup_tup K, _, rfl, iteF ?_⟩
    refine ⟨_, rfl, true, .inr (.inl ⟨_, ha, rfl⟩), iteF ?_⟩
    refine ⟨_, rfl, a, _, _, V.str x, rfl, rfl, ha, atI_zero, _, "str", "str", true, rfl, .inl (.str x), kit_str_str K, _, rfl, iteF ?_⟩
    refine ⟨_, rfl, a, _, _, V.str x, rfl, rfl, ha, atI_zero, k⟩
theorem sc_is_box : FnScope ["part", "word", "fits"] ["part"] (defScope s_is_box) := ⟨rfl, rfl, rfl, by decide +kernel, rfl, by decide +kernel, by decide +kernel⟩
theorem ok_is_box (d : Dfn K mg "is_box" s_is_box ["part"]) (T : Bi mg) (G : Gp K mg uW uC uT uD uB uL aL aB) (G' : Gf P w K mg aF f1 f2 f3 f4 f5) (c_word_of : Cal P w K mg base "word_of" 1 ["part"] (spWord K) (Pla K ["part"])) (c_is_weight : Cal P w K mg base "is_weight" 2 ["thing"] spIsWt (Pla K ["thing"])) (c_is_copies : Cal P w K mg base "is_copies" 2 ["thing"] spIsCp (Pla K ["thing"])) (c_is_rows : Cal P w K mg base "is_rows" 4 ["thing"] (spIsRws K) (Pla K ["thing"])) (c_is_order : Cal P w K mg base "is_order" 2 ["thing"] (spIsOrd K) (Pla K ["thing"])) : Cal P w K mg base "is_box" 5 ["part"] (spIsBox K) (Pla K ["part"]) := by
  refine d.ok sc_is_box (fun vs H Q E h => ?_) (fun f cdv A outer s H vs Q E hr h => ?_)
  · obtain ⟨a, b, rfl, _⟩ := h; rfl
  · obtain ⟨a, b, rfl, ha, hb, k⟩ := h
    have nd := sc_is_box.nd
    obtain ⟨rest, hd⟩ := ha.hd
    refine ⟨_, (pss_cons (ps_set (i := 1) nd rfl (by first | exact Or.inl rfl | exact Or.inr rfl) (pcall c_word_of (hr.mono (by omega)) (pa_cons (pv 0) pa_nil)))
      (pss_cons (ps_if (pt_cmpR (inK K) (pv 1) (pe_glob (by rfl) G.g_BARE_BOXES G.r_BARE_BOXES) rfl) (pss_one (ps_ret (pe_cmpR op_eq (pe_callB (lenS K) (by rfl) T.len (by decide +kernel) (pa_cons (pv 0) pa_nil)) pe_int (nomark _)))) pss_nil)
      (pss_cons (ps_if (PW.pt (pw_or (pt_cmp (pc_min true .NotIn rfl (by rfl) G'.g_FILLED_BOXES G'.m_FILLED_BOXES (pv 1))) (pw_or1 (pt_cmpR op_ne (pe_callB (lenS K) (by rfl) T.len (by decide +kernel) (pa_cons (pv 0) pa_nil)) pe_int (nomark _))))) (pss_one (ps_ret pe_bl)) pss_nil)
      (pss_cons (ps_set (i := 2) nd rfl (by first | exact Or.inl rfl | exact Or.inr rfl) (pe_mget (by rfl) G'.g_FILLED_BOXES G'.m_FILLED_BOXES (pv 1) (fun _ _ => rfl)))
      (pss_one (ps_ret (pe_callV (k := 4) (hr.mono (by omega)) (i := 2) (by rfl) (by first | exact Or.inl rfl | exact Or.inr (Or.inl rfl)) (pa_cons (pe_ix (ixT K) (pv 0) pe_int (fun _ _ => rfl)) pa_nil)))))))), ?_⟩
    refine ⟨_, rfl, a, b.word, rest, rfl, hd, ?_⟩
    refine ⟨_, rfl, aB, _, rfl, .inr (G.s_BARE H), rfl, rfl, _, rfl, ?_⟩
    cases b with
    | wire =>
      refine (if_pos (by decide +kernel)).mpr ?_
      exact ⟨_, rfl, a, _, rfl, .inr ha, rfl, k H (Same.refl _)⟩
    | lag =>
      refine (if_pos (by decide +kernel)).mpr ?_
      exact ⟨_, rfl, a, _, rfl, .inr ha, rfl, k H (Same.refl _)⟩
    | weigh n =>
      refine (if_neg (show ¬ (inV (V.str "weigh") [V.str "wire", V.str "lag"] = true) by decide +kernel)).mpr ⟨_, rfl, .inr "weigh", rfl, _, rfl, ?_⟩
      rw [kvF1]
      refine iteF ⟨_, rfl, a, _, rfl, .inr ha, rfl, _, rfl, iteF ?_⟩
      refine ⟨_, rfl, .inr "weigh", _, rfl, kvF1, f1, spIsWt, rfl, c_is_weight.fnv G'.m1 (by omega), _, rfl, a, _, _, nV n, rfl, rfl, ha, atI_one, n, rfl, hb, k H (Same.refl _)⟩
    | copy n =>
      refine (if_neg (show ¬ (inV (V.str "copy") [V.str "wire", V.str "lag"] = true) by decide +kernel)).mpr ⟨_, rfl, .inr "copy", rfl, _, rfl, ?_⟩
      rw [kvF2]
      refine iteF ⟨_, rfl, a, _, rfl, .inr ha, rfl, _, rfl, iteF ?_⟩
      refine ⟨_, rfl, .inr "copy", _, rfl, kvF2, f2, spIsCp, rfl, c_is_copies.fnv G'.m2 (by omega), _, rfl, a, _, _, nV n, rfl, rfl, ha, atI_one, n, rfl, hb, k H (Same.refl _)⟩
    | sum n =>
      refine (if_neg (show ¬ (inV (V.str "sum") [V.str "wire", V.str "lag"] = true) by decide +kernel)).mpr ⟨_, rfl, .inr "sum", rfl, _, rfl, ?_⟩
      rw [kvF3]
      refine iteF ⟨_, rfl, a, _, rfl, .inr ha, rfl, _, rfl, iteF ?_⟩
      refine ⟨_, rfl, .inr "sum", _, rfl, kvF3, f2, spIsCp, rfl, c_is_copies.fnv G'.m2 (by omega), _, rfl, a, _, _, nV n, rfl, rfl, ha, atI_one, n, rfl, hb, k H (Same.refl _)⟩
    | shuf l =>
      obtain ⟨b2, ha, hb2⟩ := ha
      refine (if_neg (show ¬ (inV (V.str "shuffle") [V.str "wire", V.str "lag"] = true) by decide +kernel)).mpr ⟨_, rfl, .inr "shuffle", rfl, _, rfl, ?_⟩
      rw [kvF5]
      refine iteF ⟨_, rfl, a, _, rfl, .inr ha, rfl, _, rfl, iteF ?_⟩
      refine ⟨_, rfl, .inr "shuffle", _, rfl, kvF5, f4, spIsOrd K, rfl, c_is_order.fnv G'.m4 (by omega), _, rfl, a, _, _, V.ref b2, rfl, rfl, ha, atI_one, b2, l, rfl, hb2, hb, fun H1 s1 => k H1 s1⟩
    | mix l =>
      obtain ⟨b2, us, ha, hb2, lu, hu⟩ := ha
      refine (if_neg (show ¬ (inV (V.str "mix") [V.str "wire", V.str "lag"] = true) by decide +kernel)).mpr ⟨_, rfl, .inr "mix", rfl, _, rfl, ?_⟩
      rw [kvF4]
      refine iteF ⟨_, rfl, a, _, rfl, .inr ha, rfl, _, rfl, iteF ?_⟩
      refine ⟨_, rfl, .inr "mix", _, rfl, kvF4, f3, spIsRws K, rfl, c_is_rows.fnv G'.m3 (by omega), _, rfl, a, _, _, V.ref b2, rfl, rfl, ha, atI_one, b2, us, l, rfl, hb2, ⟨lu, hu⟩, hb, fun H1 s1 => k H1 s1⟩
end
end L2.Lw

set_option Elab.async false
set_option linter.all false
set_option maxRecDepth 100000
namespace L2.Lw
open PySem PySem.Spec PyProof.Rows
def bxWords : List Str := ["wire", "lag", "weigh", "copy", "sum", "shuffle", "mix"]
theorem bxW : ∀ b : Bx, b.word ∈ bxWords
  | .wire => .head _
  | .lag => .tail _ (.head _)
  | .weigh _ => .tail _ (.tail _ (.head _))
  | .copy _ => .tail _ (.tail _ (.tail _ (.head _)))
  | .sum _ => .tail _ (.tail _ (.tail _ (.tail _ (.head _))))
  | .shuf _ => .tail _ (.tail _ (.tail _ (.tail _ (.tail _ (.head _)))))
  | .mix _ => .tail _ (.tail _ (.tail _ (.tail _ (.tail _ (.tail _ (.head _))))))
theorem bxN (b : Bx) (xs : List V) (h : (bxWords.all fun x => !inV (.str x) xs) = true) : ¬ (inV (.str b.word) xs = true) := fun z => by
  have := List.all_eq_true.mp h _ (bxW b)
  rw [z] at this; cases this
section
variable {P : Program} {w : World} {K : PySem.W.Frag} {mg : Str → Option Value} {base : Heap}
theorem sc_parts_of : FnScope ["part", "word"] ["part"] (defScope s_parts_of) := ⟨rfl, rfl, rfl, by decide +kernel, rfl, by decide +kernel, by decide +kernel⟩
theorem ok_parts_of (d : Dfn K mg "parts_of" s_parts_of ["part"]) (T : Bi mg) (c_word_of : Cal P w K mg base "word_of" 1 ["part"] (spWord K) (Pla K ["part"])) (c_is_filled : Cal P w K mg base "is_filled" 1 ["thing"] (spIsFil K) (Pla K ["thing"])) : Cal P w K mg base "parts_of" 2 ["part"] (spParts K) (Pla K ["part"]) := by
  refine d.ok sc_parts_of (fun vs H Q E h => ?_) (fun f cdv A outer s H vs Q E hr h => ?_)
  · obtain ⟨w, v, rfl, _⟩ := h; rfl
  · obtain ⟨wt, v, rfl, hw, l12, l1, k⟩ := h
    have nd := sc_parts_of.nd
    obtain ⟨a, rest, rfl, hd⟩ := hw.hd
    refine ⟨_, (pss_cons (ps_set (i := 1) nd rfl (by first | exact Or.inl rfl | exact Or.inr rfl) (pcall c_word_of (hr.mono (by omega)) (pa_cons (pv 0) pa_nil)))
      (pss_cons (ps_if (PW.pt (pw_and (pt_cmpR (inK K) (pv 1) (pe_tup (pa_cons pe_str (pa_cons pe_str pa_nil))) rfl) (pw_and1 (pt_cmpR op_eq (pe_callB (lenS K) (by rfl) T.len (by decide +kernel) (pa_cons (pv 0) pa_nil)) pe_int (nomark _))))) (pss_one (ps_ret (pe_slice (slT K) (pv 0) (po_some pe_int) po_none))) pss_nil)
      (pss_cons (ps_if (PW.pt (pw_and (pt_cmpR (inK K) (pv 1) (pe_tup (pa_cons pe_str (pa_cons pe_str pa_nil))) rfl) (pw_and (pt_cmpR op_eq (pe_callB (lenS K) (by rfl) T.len (by decide +kernel) (pa_cons (pv 0) pa_nil)) pe_int (nomark _)) (pw_and1 (pt_val (pcall c_is_filled (hr.mono (by omega)) (pa_cons (pe_ix (ixT K) (pv 0) pe_int (fun _ _ => rfl)) pa_nil))))))) (pss_one (ps_ret (pe_ix (ixT K) (pv 0) pe_int (fun _ _ => rfl)))) pss_nil)
      (pss_one (ps_ret (pe_tup pa_nil)))))), ?_⟩
    refine ⟨_, rfl, a, wt.word, rest, rfl, hd, ?_⟩
    refine ⟨_, rfl, by show 2 ≤ sizeLine; decide, fun q1 hq1 => ⟨q1, _, rfl, .inr (SqT.of upd_same), rfl, rfl, _, rfl, ?_⟩⟩
    have s1 := Same.new (o := .tup [.str "turned", .str "ring"]) hq1
    generalize upd H q1 (.tup [.str "turned", .str "ring"]) = H1 at s1 ⊢
    cases wt with
    | trn w1 =>
      obtain ⟨a1, u, e1, h1, h2⟩ := hw
      cases e1
      refine (if_pos (show inV (V.str "turned") [V.str "turned", V.str "ring"] = true by decide +kernel)).mpr ?_
      refine ⟨_, rfl, a, _, rfl, .inr (Same.tup s1 h1), rfl, _, rfl, iteT ?_⟩
      refine ⟨_, rfl, 1, rfl, a, _, rfl, Same.tup s1 h1, (fun z => by have := z.1; revert this; exact (show ¬ HT.sIx 2 0 (some 1) = 0 by decide)), fun p hp => ?_⟩
      have s2 := s1.trans (Same.new (o := .tup (cutV [V.str "turned", u] (some 1) none)) hp)
      exact k p [u] _ (SqT.of upd_same) ⟨u, [], rfl, h2.kt (Same.kt s2), rfl⟩ s2
    | rng w1 =>
      obtain ⟨a1, u, e1, h1, h2⟩ := hw
      cases e1
      refine (if_pos (show inV (V.str "ring") [V.str "turned", V.str "ring"] = true by decide +kernel)).mpr ?_
      refine ⟨_, rfl, a, _, rfl, .inr (Same.tup s1 h1), rfl, _, rfl, iteT ?_⟩
      refine ⟨_, rfl, 1, rfl, a, _, rfl, Same.tup s1 h1, (fun z => by have := z.1; revert this; exact (show ¬ HT.sIx 2 0 (some 1) = 0 by decide)), fun p hp => ?_⟩
      have s2 := s1.trans (Same.new (o := .tup (cutV [V.str "ring", u] (some 1) none)) hp)
      exact k p [u] _ (SqT.of upd_same) ⟨u, [], rfl, h2.kt (Same.kt s2), rfl⟩ s2
    | thn ws =>
      obtain ⟨a1, b1, vs, e1, h1, h2, h3⟩ := hw
      cases e1
      have lv := h3.len
      have l2 := l1 ws (.inl rfl)
      have l3 : ws.length ≤ 12 := l12
      refine (if_neg (show ¬ (inV (V.str "then") [V.str "turned", V.str "ring"] = true) by decide +kernel)).mpr (iteF ?_)
      refine ⟨_, rfl, by show 2 ≤ sizeLine; decide, fun q2 hq2 => ⟨q2, _, rfl, .inr (SqT.of upd_same), rfl, rfl, _, rfl, ?_⟩⟩
      have s2 := s1.trans (Same.new (o := .tup [.str "then", .str "beside"]) hq2)
      generalize upd H1 q2 (.tup [.str "then", .str "beside"]) = H2 at s2 ⊢
      refine (if_pos (show inV (V.str "then") [V.str "then", V.str "beside"] = true by decide +kernel)).mpr ?_
      refine ⟨_, rfl, a, _, rfl, .inr (Same.tup s2 h1), rfl, _, rfl, iteT ?_⟩
      refine ⟨_, rfl, a, _, _, V.ref b1, rfl, rfl, Same.tup s2 h1, atI_one, b1, vs, rfl, Same.tup s2 h2, by omega, by omega, _, rfl, iteT ?_⟩
      refine ⟨_, rfl, a, _, _, V.ref b1, rfl, rfl, Same.tup s2 h1, atI_one, ?_⟩
      exact k b1 vs _ (Same.tup s2 h2) (h3.kt (Same.kt s2)) s2
    | bes ws =>
      obtain ⟨a1, b1, vs, e1, h1, h2, h3⟩ := hw
      cases e1
      have lv := h3.len
      have l2 := l1 ws (.inr rfl)
      have l3 : ws.length ≤ 12 := l12
      refine (if_neg (show ¬ (inV (V.str "beside") [V.str "turned", V.str "ring"] = true) by decide +kernel)).mpr (iteF ?_)
      refine ⟨_, rfl, by show 2 ≤ sizeLine; decide, fun q2 hq2 => ⟨q2, _, rfl, .inr (SqT.of upd_same), rfl, rfl, _, rfl, ?_⟩⟩
      have s2 := s1.trans (Same.new (o := .tup [.str "then", .str "beside"]) hq2)
      generalize upd H1 q2 (.tup [.str "then", .str "beside"]) = H2 at s2 ⊢
      refine (if_pos (show inV (V.str "beside") [V.str "then", V.str "beside"] = true by decide +kernel)).mpr ?_
      refine ⟨_, rfl, a, _, rfl, .inr (Same.tup s2 h1), rfl, _, rfl, iteT ?_⟩
      refine ⟨_, rfl, a, _, _, V.ref b1, rfl, rfl, Same.tup s2 h1, atI_one, b1, vs, rfl, Same.tup s2 h2, by omega, by omega, _, rfl, iteT ?_⟩
      refine ⟨_, rfl, a, _, _, V.ref b1, rfl, rfl, Same.tup s2 h1, atI_one, ?_⟩
      exact k b1 vs _ (Same.tup s2 h2) (h3.kt (Same.kt s2)) s2
    | box b =>
      have e1 : ¬ (inV (V.str b.word) [V.str "turned", V.str "ring"] = true) := bxN b _ (by decide +kernel)
      have e2 : ¬ (inV (V.str b.word) [V.str "then", V.str "beside"] = true) := bxN b _ (by decide +kernel)
      refine (if_neg e1).mpr (iteF ?_)
      refine ⟨_, rfl, by show 2 ≤ sizeLine; decide, fun q2 hq2 => ⟨q2, _, rfl, .inr (SqT.of upd_same), rfl, rfl, _, rfl, ?_⟩⟩
      have s2 := s1.trans (Same.new (o := .tup [.str "then", .str "beside"]) hq2)
      generalize upd H1 q2 (.tup [.str "then", .str "beside"]) = H2 at s2 ⊢
      refine (if_neg e2).mpr (iteF ?_)
      refine ⟨by show 0 ≤ sizeLine; decide, fun q3 hq3 => ?_⟩
      exact k q3 [] _ (SqT.of upd_same) rfl (s2.trans (Same.new hq3))
end
end L2.Lw

set_option Elab.async false
set_option linter.all false
set_option maxRecDepth 100000
namespace L2.Lw
open PySem PySem.Spec PyProof.Rows
/-! ### the boxes of a wiring -/
def BxsAt (K : PySem.W.Frag) (H : Hp) (us : List V) (bs : List Bx) : Prop := us.length = bs.length ∧ ∀ (i : Nat) (b : Bx), bs[i]? = some b → ∃ a : Addr, us[i]? = some (.ref a) ∧ BxAt K H a b
def WtsAt (K : PySem.W.Frag) (H : Hp) (ws : List V) (st : List (Wt × Nat)) : Prop := ws.length = st.length ∧ ∀ (i : Nat) (t : Wt × Nat), st[i]? = some t → ∃ (c : Addr) (v : V), ws[i]? = some (.ref c) ∧ SqT K H c [v, nV t.2] ∧ Wr K H t.1 v
section
variable {K : PySem.W.Frag} {H H' : Hp}
theorem BxsAt.kt {us : List V} {bs : List Bx} (h : BxsAt K H us bs) (k : KT K H H') : BxsAt K H' us bs := ⟨h.1, fun i b e => let ⟨a, x, y⟩ := h.2 i b e; ⟨a, x, y.kt k⟩⟩
theorem WtsAt.kt {us : List V} {st : List (Wt × Nat)} (h : WtsAt K H us st) (k : KT K H H') : WtsAt K H' us st := ⟨h.1, fun i b e => let ⟨a, v, x, y, z⟩ := h.2 i b e; ⟨a, v, x, k _ _ y, z.kt k⟩⟩
theorem get_app {α β : Type} {us : List α} {bs : List β} {u : α} {b : β} {P : α → β → Prop} (l : us.length = bs.length) (h : ∀ (i : Nat) (x : β), bs[i]? = some x → ∃ y, us[i]? = some y ∧ P y x) (q : P u b) : ∀ (i : Nat) (x : β), (bs ++ [b])[i]? = some x → ∃ y, (us ++ [u])[i]? = some y ∧ P y x := fun i x e => by
  by_cases c : i < bs.length
  · rw [List.getElem?_append_left c] at e
    obtain ⟨y, hy, hp⟩ := h i x e
    exact ⟨y, by rw [List.getElem?_append_left (by omega)]; exact hy, hp⟩
  · have hlt := (List.getElem?_eq_some_iff.mp e).1
    rw [List.length_append, List.length_singleton] at hlt
    have ei : i = bs.length := by omega
    subst ei
    rw [List.getElem?_append_right (Nat.le_refl _), Nat.sub_self] at e
    cases e
    exact ⟨u, by rw [← l, List.getElem?_append_right (Nat.le_refl _), Nat.sub_self]; rfl, q⟩
theorem BxsAt.add {us : List V} {bs : List Bx} {a : Addr} {b : Bx} (h : BxsAt K H us bs) (q : BxAt K H a b) : BxsAt K H (us ++ [.ref a]) (bs ++ [b]) := by
  refine ⟨by simp [h.1], fun i x e => ?_⟩
  obtain ⟨y, hy, c, rfl, hc⟩ := get_app (u := V.ref a) (b := b) (P := fun y x => ∃ c, y = V.ref c ∧ BxAt K H c x) h.1 (fun i x e => let ⟨c, h1, h2⟩ := h.2 i x e; ⟨_, h1, c, rfl, h2⟩) ⟨a, rfl, q⟩ i x e
  exact ⟨c, hy, hc⟩
theorem WtsAt.add {ws : List V} {st : List (Wt × Nat)} {c : Addr} {v : V} {t : Wt × Nat} (h : WtsAt K H ws st) (q1 : SqT K H c [v, nV t.2]) (q2 : Wr K H t.1 v) : WtsAt K H (ws ++ [.ref c]) (st ++ [t]) := by
  refine ⟨by simp [h.1], fun i x e => ?_⟩
  obtain ⟨y, hy, c, v, rfl, hc⟩ := get_app (u := V.ref c) (b := t) (P := fun y x => ∃ (c : Addr) (v : V), y = V.ref c ∧ SqT K H c [v, nV x.2] ∧ Wr K H x.1 v) h.1 (fun i x e => let ⟨c, v, h1, h2⟩ := h.2 i x e; ⟨_, h1, c, v, rfl, h2⟩) ⟨c, v, rfl, q1, q2⟩ i x e
  exact ⟨c, v, hy, hc⟩
end
theorem boxesL_cons (w : Wt) (ws : List Wt) : boxesL (w :: ws) = w.boxes ++ boxesL ws := by rw [boxesL]
theorem sizeL_cons (w : Wt) (ws : List Wt) : sizeL (w :: ws) = w.size + sizeL ws := by rw [sizeL]
theorem boxesL_nil : boxesL [] = [] := by rw [boxesL]
theorem sizeL_nil : sizeL [] = 0 := by rw [sizeL]
theorem deep_trn (w : Wt) : (Wt.trn w).deep = w.deep + 1 := by rw [Wt.deep]
theorem deep_rng (w : Wt) : (Wt.rng w).deep = w.deep + 1 := by rw [Wt.deep]
theorem deep_thn (ws : List Wt) : (Wt.thn ws).deep = deepL ws + 1 := by rw [Wt.deep]
theorem deep_bes (ws : List Wt) : (Wt.bes ws).deep = deepL ws + 1 := by rw [Wt.deep]
theorem boxesL_app : ∀ a b : List Wt, boxesL (a ++ b) = boxesL a ++ boxesL b
  | [], b => by rw [boxesL_nil]; rfl
  | w :: a, b => by rw [List.cons_append, boxesL_cons, boxesL_cons, boxesL_app a b, List.append_assoc]
theorem sizeL_app : ∀ a b : List Wt, sizeL (a ++ b) = sizeL a + sizeL b
  | [], b => by rw [List.nil_append, sizeL_nil]; omega
  | w :: a, b => by rw [List.cons_append, sizeL_cons, sizeL_cons, sizeL_app a b]; omega
theorem deepL_mem : ∀ {ws : List Wt} {w : Wt}, w ∈ ws → w.deep ≤ deepL ws
  | x :: ws, w, h => by
    unfold deepL
    rcases List.mem_cons.mp h with rfl | h
    · exact Nat.le_max_left _ _
    · exact Nat.le_trans (deepL_mem h) (Nat.le_max_right _ _)
theorem okjL_mem : ∀ {ws : List Wt} {w : Wt}, okjL ws → w ∈ ws → w.okj
  | x :: ws, w, h, hm => by
    unfold okjL at h
    rcases List.mem_cons.mp hm with rfl | hm
    · exact h.1
    · exact okjL_mem h.2 hm
theorem Wt.deep1 (w : Wt) : 1 ≤ w.deep := by cases w <;> unfold Wt.deep <;> omega
theorem Wt.size1 (w : Wt) : 1 ≤ w.size := by cases w <;> unfold Wt.size <;> omega
theorem Wt.parts_boxes : ∀ {w : Wt}, w.parts ≠ [] → boxesL w.parts = w.boxes
  | .box _, h => absurd rfl h
  | .trn w, _ => by show boxesL [w] = _; rw [boxesL_cons, boxesL_nil, List.append_nil, Wt.boxes]
  | .rng w, _ => by show boxesL [w] = _; rw [boxesL_cons, boxesL_nil, List.append_nil, Wt.boxes]
  | .thn ws, _ => by show boxesL ws = _; conv => rhs; unfold Wt.boxes
  | .bes ws, _ => by show boxesL ws = _; conv => rhs; unfold Wt.boxes
theorem Wt.parts_size : ∀ {w : Wt}, w.parts ≠ [] → sizeL w.parts + 1 = w.size
  | .box _, h => absurd rfl h
  | .trn w, _ => by show sizeL [w] + 1 = _; rw [sizeL_cons, sizeL_nil, Wt.size]
  | .rng w, _ => by show sizeL [w] + 1 = _; rw [sizeL_cons, sizeL_nil, Wt.size]
  | .thn ws, _ => by show sizeL ws + 1 = _; conv => rhs; unfold Wt.size
  | .bes ws, _ => by show sizeL ws + 1 = _; conv => rhs; unfold Wt.size
theorem Wt.parts_deep : ∀ {w x : Wt}, x ∈ w.parts → x.deep + 1 ≤ w.deep
  | .box _, _, h => absurd h (by simp [Wt.parts])
  | .trn w, x, h => by rw [List.mem_singleton.mp h, deep_trn]; omega
  | .rng w, x, h => by rw [List.mem_singleton.mp h, deep_rng]; omega
  | .thn ws, x, h => by have := deepL_mem (show x ∈ ws from h); rw [deep_thn]; omega
  | .bes ws, x, h => by have := deepL_mem (show x ∈ ws from h); rw [deep_bes]; omega
theorem Wt.parts_okj : ∀ {w x : Wt}, w.okj → x ∈ w.parts → x.okj
  | .box _, _, _, h => absurd h (by simp [Wt.parts])
  | .trn w, x, o, h => by rw [List.mem_singleton.mp h]; unfold Wt.okj at o; exact o
  | .rng w, x, o, h => by rw [List.mem_singleton.mp h]; unfold Wt.okj at o; exact o
  | .thn ws, x, o, h => by unfold Wt.okj at o; exact okjL_mem o.2.2 h
  | .bes ws, x, o, h => by unfold Wt.okj at o; exact okjL_mem o.2.2 h
theorem Wt.parts_len : ∀ {w : Wt}, w.okj → w.parts.length ≤ 12
  | .box _, _ => by simp [Wt.parts]
  | .trn _, _ => by simp [Wt.parts]
  | .rng _, _ => by simp [Wt.parts]
  | .thn ws, o => by unfold Wt.okj at o; exact o.2.1
  | .bes ws, o => by unfold Wt.okj at o; exact o.2.1
theorem Wt.parts_one : ∀ {w : Wt}, w.okj → ∀ ws, w = .thn ws ∨ w = .bes ws → 1 ≤ ws.length := fun {w} o ws h => by
  rcases h with rfl | rfl <;> (unfold Wt.okj at o; exact o.1)
theorem Wt.parts_nil : ∀ {w : Wt}, w.okj → w.parts = [] → ∃ b, w = .box b
  | .box b, _, _ => ⟨b, rfl⟩
  | .trn _, _, h => by cases h
  | .rng _, _, h => by cases h
  | .thn ws, o, h => by
    have h : ws = [] := h
    unfold Wt.okj at o; rw [h] at o; simp at o
  | .bes ws, o, h => by
    have h : ws = [] := h
    unfold Wt.okj at o; rw [h] at o; simp at o
end L2.Lw

set_option Elab.async false
set_option linter.all false
set_option maxRecDepth 100000
namespace L2.Lw
open PySem PySem.Spec PyProof.Rows
def spBoxes (K : PySem.W.Frag) : Sp := fun vs H Q _ => ∃ (w : Wt) (v : V), vs = [v] ∧ Wr K H w v ∧ w.Ok ∧ ∀ (l : Addr) (us : List V) H', H l = none → H' l = some (.lst us) → BxsAt K H' us w.boxes → Same H H' → Q (.ref l) H'
def Bx.data : Bx → PyData
  | .wire => .tuple [.str "wire"]
  | .lag => .tuple [.str "lag"]
  | .weigh n => .tuple [.str "weigh", .int (n : Nat)]
  | .copy n => .tuple [.str "copy", .int (n : Nat)]
  | .sum n => .tuple [.str "sum", .int (n : Nat)]
  | .shuf l => .tuple [.str "shuffle", .tuple (l.map fun n => PyData.int ((n : Nat) : Int))]
  | .mix l => .tuple [.str "mix", .tuple (l.map fun ns => PyData.tuple (ns.map fun n => PyData.int ((n : Nat) : Int)))]
section
variable {K : PySem.W.Frag} {H : Hp}
theorem dpN : ∀ l : List Nat, DpAll K H (l.map nV) (l.map fun n => PyData.int ((n : Nat) : Int))
  | [] => .nil
  | n :: l => .cons (.int _) (dpN l)
theorem dpRws : ∀ {l : List (List Nat)} {us : List V}, RwsAt K H us l → DpAll K H us (l.map fun ns => PyData.tuple (ns.map fun n => PyData.int ((n : Nat) : Int)))
  | [], us, h => by have : us = [] := List.eq_nil_of_length_eq_zero h.1; subst this; exact .nil
  | ns :: l, [], h => absurd h.1 (by simp)
  | ns :: l, u :: us, h => by
    obtain ⟨c, e, q⟩ := h.2 0 ns rfl
    cases e
    exact .cons (.tup q (dpN ns)) (dpRws ⟨by simpa using h.1, fun i ms e => h.2 (i + 1) ms e⟩)
theorem BxAt.dp {a : Addr} : ∀ {b : Bx}, BxAt K H a b → Dp K H (.ref a) b.data
  | .wire, h => .tup h (.cons (.str _) .nil)
  | .lag, h => .tup h (.cons (.str _) .nil)
  | .weigh _, h => .tup h (.cons (.str _) (.cons (.int _) .nil))
  | .copy _, h => .tup h (.cons (.str _) (.cons (.int _) .nil))
  | .sum _, h => .tup h (.cons (.str _) (.cons (.int _) .nil))
  | .shuf l, ⟨b, h1, h2⟩ => .tup h1 (.cons (.str _) (.cons (.tup h2 (dpN l)) .nil))
  | .mix l, ⟨b, vs, h1, h2, h3⟩ => .tup h1 (.cons (.str _) (.cons (.tup h2 (dpRws h3)) .nil))
theorem BxsAt.dp : ∀ {bs : List Bx} {us : List V}, BxsAt K H us bs → DpAll K H us (bs.map Bx.data)
  | [], us, h => by have : us = [] := List.eq_nil_of_length_eq_zero h.1; subst this; exact .nil
  | b :: bs, [], h => absurd h.1 (by simp)
  | b :: bs, u :: us, h => by
    obtain ⟨c, e, q⟩ := h.2 0 b rfl
    cases e
    exact .cons q.dp (BxsAt.dp ⟨by simpa using h.1, fun i ms e => h.2 (i + 1) ms e⟩)
end
theorem layN : ∀ l : List Nat, PyData.canLayAll0 (l.map fun n => PyData.int ((n : Nat) : Int)) = true
  | [] => rfl
  | n :: l => by rw [List.map_cons]; simp only [PyData.canLayAll0, layN l, PyData.canLay0, Bool.and_self]
theorem layNN : ∀ l : List (List Nat), PyData.canLayAll0 (l.map fun ns => PyData.tuple (ns.map fun n => PyData.int ((n : Nat) : Int))) = true
  | [] => rfl
  | n :: l => by rw [List.map_cons]; simp only [PyData.canLayAll0, layNN l, PyData.canLay0, layN, Bool.and_self]
theorem Bx.lay : ∀ b : Bx, b.data.canLay0 = true
  | .wire => by simp only [Bx.data, PyData.canLay0, PyData.canLayAll0, Bool.and_self]; decide +kernel
  | .lag => by simp only [Bx.data, PyData.canLay0, PyData.canLayAll0, Bool.and_self]; decide +kernel
  | .weigh _ => by simp only [Bx.data, PyData.canLay0, PyData.canLayAll0, Bool.and_self]; decide +kernel
  | .copy _ => by simp only [Bx.data, PyData.canLay0, PyData.canLayAll0, Bool.and_self]; decide +kernel
  | .sum _ => by simp only [Bx.data, PyData.canLay0, PyData.canLayAll0, Bool.and_self]; decide +kernel
  | .shuf l => by simp only [Bx.data, PyData.canLay0, PyData.canLayAll0, layN, Bool.and_self]; decide +kernel
  | .mix l => by simp only [Bx.data, PyData.canLay0, PyData.canLayAll0, layNN, Bool.and_self]; decide +kernel
theorem layBxs : ∀ bs : List Bx, PyData.canLayAll0 (bs.map Bx.data) = true
  | [] => rfl
  | b :: bs => by rw [List.map_cons]; simp only [PyData.canLayAll0, layBxs bs, Bx.lay, Bool.and_self]
theorem Bx.eqvLag : ∀ b : Bx, PyData.eqv b.data Bx.lag.data = decide (b = .lag)
  | .wire => by rfl
  | .lag => by rfl
  | .weigh _ => by simp [Bx.data, PyData.eqv, PyData.eqvAll]
  | .copy _ => by simp [Bx.data, PyData.eqv, PyData.eqvAll]
  | .sum _ => by simp [Bx.data, PyData.eqv, PyData.eqvAll]
  | .shuf l => by simp [Bx.data, PyData.eqv, PyData.eqvAll]
  | .mix l => by simp [Bx.data, PyData.eqv, PyData.eqvAll]
theorem count_lag (bs : List Bx) : ((bs.map Bx.data).countP fun e => PyData.eqv e Bx.lag.data) = bs.count .lag := by
  rw [List.countP_map]
  show List.countP (fun b => PyData.eqv (Bx.data b) Bx.lag.data) bs = _
  unfold List.count
  exact List.countP_congr fun b _ => by rw [Bx.eqvLag]; simp
mutual
theorem boxes_pos : ∀ w : Wt, w.okj → 1 ≤ w.boxes.length
  | .box b, _ => by rw [Wt.boxes]; simp
  | .trn w, o => by rw [Wt.boxes]; rw [Wt.okj] at o; exact boxes_pos w o
  | .rng w, o => by rw [Wt.boxes]; rw [Wt.okj] at o; exact boxes_pos w o
  | .thn ws, o => by rw [Wt.boxes]; rw [Wt.okj] at o; have := boxesL_pos ws o.2.2; omega
  | .bes ws, o => by rw [Wt.boxes]; rw [Wt.okj] at o; have := boxesL_pos ws o.2.2; omega
theorem boxesL_pos : ∀ ws : List Wt, okjL ws → ws.length ≤ (boxesL ws).length
  | [], _ => by simp
  | w :: ws, o => by
    rw [okjL] at o
    have := boxes_pos w o.1
    have := boxesL_pos ws o.2
    rw [boxesL_cons, List.length_append, List.length_cons]; omega
end
theorem okjL_of : ∀ ws : List Wt, (∀ w ∈ ws, w.okj) → okjL ws
  | [], _ => by rw [okjL]; trivial
  | w :: ws, h => by rw [okjL]; exact ⟨h w (by simp), okjL_of ws fun x hx => h x (by simp [hx])⟩
theorem sizeL_rev (ws : List Wt) : sizeL ws.reverse = sizeL ws := by
  induction ws with
  | nil => rfl
  | cons w ws ih => rw [List.reverse_cons, sizeL_app, ih, sizeL_cons, sizeL_cons, sizeL_nil]; omega
theorem WtsAt.app {K : PySem.W.Frag} {H : Hp} {ws us : List V} {st su : List (Wt × Nat)} (h : WtsAt K H ws st) (q : WtsAt K H us su) : WtsAt K H (ws ++ us) (st ++ su) := by
  refine ⟨by rw [List.length_append, List.length_append, h.1, q.1], fun i x e => ?_⟩
  by_cases c : i < st.length
  · rw [List.getElem?_append_left c] at e
    rw [List.getElem?_append_left (by rw [h.1]; exact c)]
    exact h.2 i x e
  · rw [List.getElem?_append_right (by omega)] at e
    rw [List.getElem?_append_right (by rw [h.1]; omega), h.1]
    exact q.2 _ x e
section
variable {P : Program} {w : World} {K : PySem.W.Frag} {mg : Str → Option Value} {base : Heap} {uW uC uT uD uB uL : Value} {aL aB : Addr}
/-- what holds between two turns -/
structure BoI (K : PySem.W.Frag) (w0 : Wt) (H H' : Hp) (F S : Addr) (bs : List Bx) (st : List (Wt × Nat)) : Prop where
  sm : Same H H'
  f : ∃ us, H' F = some (.lst us) ∧ BxsAt K H' us bs
  s : ∃ ws, H' S = some (.lst ws) ∧ WtsAt K H' ws st
  all : bs ++ boxesL (st.map (·.1)).reverse = w0.boxes
  ok : ∀ t ∈ st, t.1.okj ∧ t.1.deep + t.2 ≤ 17 ∧ 1 ≤ t.2
theorem sc_boxes_of : FnScope ["wiring", "found", "waiting", "part", "deep", "inner", "one"] ["wiring"] (defScope s_boxes_of) := ⟨rfl, rfl, rfl, by decide +kernel, rfl, by decide +kernel, by decide +kernel⟩
set_option maxHeartbeats 1000000 in
theorem ok_boxes_of (d : Dfn K mg "boxes_of" s_boxes_of ["wiring"]) (T : Bi mg) (hrev : mg "reversed" = none) (G : Gp K mg uW uC uT uD uB uL aL aB) (c_parts_of : Cal P w K mg base "parts_of" 2 ["part"] (spParts K) (Pla K ["part"])) (c_is_box : Cal P w K mg base "is_box" 5 ["part"] (spIsBox K) (Pla K ["part"])) : Cal P w K mg base "boxes_of" 6 ["wiring"] (spBoxes K) (Pla K ["wiring"]) := by
  refine d.ok sc_boxes_of (fun vs H Q E h => ?_) (fun f cdv A outer s H vs Q E hr h => ?_)
  · obtain ⟨w0, v0, rfl, _⟩ := h; rfl
  · obtain ⟨w0, v0, rfl, hw, ok, k⟩ := h
    have nd := sc_boxes_of.nd
    refine ⟨_, (pss_cons (ps_set (i := 1) nd rfl (by first | exact Or.inl rfl | exact Or.inr rfl) (pe_lst pa_nil))
      (pss_cons (ps_set (i := 2) nd rfl (by first | exact Or.inl rfl | exact Or.inr rfl) (pe_lst (pa_cons (pe_tup (pa_cons (pv 0) (pa_cons pe_int pa_nil))) pa_nil)))
      (pss_cons (ps_while PassesOwn.never (pt_truth (pv 2) (by intro _; rfl)) (pss_cons (ps_asg (pe_bm0 PySem.F.plainAttrs_list PySem.F.slot_list_pop PySem.F.type_list_pop mt_pop (pv 2)) (pg_tup rfl (pgs_cons (pg_name (i := 3) nd rfl (by first | exact Or.inl rfl | exact Or.inr rfl)) (pgs_cons (pg_name (i := 4) nd rfl (by first | exact Or.inl rfl | exact Or.inr rfl)) pgs_nil))))
      (pss_cons (ps_set (i := 5) nd rfl (by first | exact Or.inl rfl | exact Or.inr rfl) (pcall c_parts_of (hr.mono (by omega)) (pa_cons (pv 3) pa_nil)))
      (pss_cons (ps_if (PW.pt (pw_and (pt_not (pt_truth (pv 5) (by intro _; rfl))) (pw_and1 (pt_not (pt_val (pcall c_is_box (hr.mono (by omega)) (pa_cons (pv 3) pa_nil))))))) (pss_one ps_never) pss_nil)
      (pss_cons (ps_if (pt_cmpR op_gt (pv 4) (pe_glob (by rfl) G.g_MOST_DEEP G.r_MOST_DEEP) (nomark _)) (pss_one ps_never) pss_nil)
      (pss_cons (ps_if (pt_truth (pv 5) (by intro _; rfl)) (pss_one (ps_expr (pe_bm PySem.F.plainAttrs_list PySem.F.slot_list_extend PySem.F.type_list_extend mt_extend (pv 2) (pa_cons (pe_lc (own := [("one", 6)]) (g := _) (by rfl) nd (pi_revT (by rfl) hrev (pa_cons (pv 5) pa_nil)) (blkOk_by (own := [("one", 6)]) (N := ["wiring", "found", "waiting", "part", "deep", "inner", "one"]) (sc := defScope s_boxes_of) (by decide +kernel)) (fun _ _ _ _ _ => (pg_name (i := 6) nd rfl (by first | exact Or.inl rfl | exact Or.inr rfl))) (fun _ _ _ _ _ => pts_nil) (fun _ _ _ _ _ => (pe_tup (pa_cons (pv 6) (pa_cons (pe_op op_add (pv 4) pe_int) pa_nil))))) pa_nil)))) (pss_one (ps_expr (pe_bm PySem.F.plainAttrs_list PySem.F.slot_list_append PySem.F.type_list_append mt_append (pv 1) (pa_cons (pv 3) pa_nil)))))
      (pss_one (ps_if (pt_cmpR op_gt (pe_callB (lenS K) (by rfl) T.len (by decide +kernel) (pa_cons (pv 1) pa_nil)) (pe_glob (by rfl) G.g_MOST_BOXES G.r_MOST_BOXES) (nomark _)) (pss_one ps_never) pss_nil))))))))
      (pss_cons (ps_if (pt_cmpR op_gt (pe_bm PySem.F.plainAttrs_list PySem.F.slot_list_count PySem.F.type_list_count (mt_count hr.units) (pv 1) (pa_cons (pe_glob (by rfl) G.g_LAG G.r_LAG) pa_nil)) (pe_glob (by rfl) G.g_MOST_LAGS G.r_MOST_LAGS) (nomark _)) (pss_one ps_never) pss_nil)
      (pss_one (ps_ret (pv 1))))))), ?_⟩
    refine ⟨by show 0 ≤ sizeLine; decide, fun F hF => ?_⟩
    refine ⟨_, rfl, by show 2 ≤ sizeLine; decide, fun q hq => ⟨by show 1 ≤ sizeLine; decide, fun S hS => ?_⟩⟩
    have s1 := Same.new (o := .lst []) hF
    have s2 := Same.new (o := .tup [v0, .int 1]) hq
    have s3 := Same.new (o := .lst [V.ref q]) hS
    have hF3 := s3 _ _ (s2 _ _ (upd_same (H := H) (a := F) (o := .lst [])))
    have hq3 := s3 _ _ (upd_same (H := upd H F (.lst [])) (a := q) (o := .tup [v0, .int 1]))
    have hS3 := upd_same (H := upd (upd H F (.lst [])) q (.tup [v0, .int 1])) (a := S) (o := .lst [V.ref q])
    have s13 := s1.trans (s2.trans s3)
    have nFS : F ≠ S := ne_of_none (s2 _ _ (upd_same (H := H) (a := F) (o := .lst []))) hS
    have hSH : H S = none := (s1.trans s2).free hS
    generalize upd (upd (upd H F (.lst [])) q (.tup [v0, .int 1])) S (.lst [V.ref q]) = H3 at hF3 hq3 hS3 s13 ⊢
    refine ⟨fun m σ H' => ∃ bs st v3 v4 v5, m = sizeL (st.map (·.1)) ∧ σ = [some v0, some (.ref F), some (.ref S), v3, v4, v5, none] ∧ BoI K w0 H H' F S bs st, ⟨_, [], [(w0, 1)], none, none, none, rfl, rfl, s13, ⟨[], hF3, rfl, fun i b e => by simp at e⟩, ⟨[.ref q], hS3, rfl, fun i t e => ?_⟩, ?_, fun t ht => ?_⟩, ?_⟩
    · rcases i with _ | i
      · simp at e; subst e
        exact ⟨q, v0, rfl, SqT.of hq3, hw.kt (Same.kt s13)⟩
      · simp at e
    · show [] ++ boxesL [w0] = _
      rw [boxesL_cons, boxesL_nil, List.append_nil, List.nil_append]
    · rw [List.mem_singleton.mp ht]
      have := ok.d
      exact ⟨ok.j, by show w0.deep + 1 ≤ 17; omega, Nat.le_refl _⟩
    rintro m σ H' ⟨bs, st, v3, v4, v5, rfl, rfl, I⟩
    obtain ⟨us, hFu, hus⟩ := I.f
    obtain ⟨ws, hSw, hws⟩ := I.s
    have all60 : bs.length + (boxesL (st.map (·.1)).reverse).length ≤ 60 := by
      have := congrArg List.length I.all
      rw [List.length_append] at this
      have := ok.m; omega
    refine ⟨_, rfl, _, .inl ⟨ws, SqL.of hSw, rfl⟩, ?_⟩
    rcases List.eq_nil_or_concat st with e | ⟨st', t, e⟩
    · subst e
      have : ws = [] := List.eq_nil_of_length_eq_zero hws.1
      subst this
      have eall : bs = w0.boxes := by have := I.all; rwa [List.map_nil, List.reverse_nil, boxesL_nil, List.append_nil] at this
      subst eall
      refine (if_neg (by simp)).mpr ?_
      refine ⟨_, rfl, .inl ⟨rfl, us, SqL.of hFu⟩, ?_⟩
      refine ⟨F, us, .ref aL, _, Bx.lag.data, rfl, rfl, SqL.of hFu, hus.dp, .tup (G.s_LAG H') (.cons (.str _) .nil), layBxs _, Bx.lay _, by decide +kernel, ?_⟩
      rw [count_lag]
      have := ok.l
      refine ⟨_, _, rfl, rfl, _, rfl, ?_⟩
      refine (if_neg (by simp; omega)).mpr ?_
      exact ⟨_, rfl, k F us H' hF hFu hus I.sm⟩
    · rw [List.concat_eq_append] at e
      subst e
      obtain ⟨o1, o2, o3⟩ := I.ok t (by simp)
      have lws := hws.1
      rw [List.length_append, List.length_singleton] at lws
      have lst : (st' ++ [t]).length ≤ 60 := by
        have := boxesL_pos ((st' ++ [t]).map (·.1)).reverse (okjL_of _ fun x hx => by
          rw [List.mem_reverse] at hx
          obtain ⟨y, hy, rfl⟩ := List.mem_map.mp hx
          exact (I.ok y hy).1)
        rw [List.length_reverse, List.length_map] at this
        omega
      rw [List.length_append, List.length_singleton] at lst
      obtain ⟨c, v, ec, hc, hv⟩ := hws.2 st'.length t (by rw [List.getElem?_append_right (Nat.le_refl _), Nat.sub_self]; rfl)
      refine (if_pos (by rw [Bool.not_eq_true', List.isEmpty_eq_false_iff]; intro z; rw [z] at lws; simp at lws)).mpr ?_
      refine ⟨fun σ' H'' => ∃ bs2 st2 v3 v4 v5, sizeL (st2.map (·.1)) < sizeL ((st' ++ [t]).map (·.1)) ∧ σ' = [some v0, some (.ref F), some (.ref S), v3, v4, v5, none] ∧ BoI K w0 H H'' F S bs2 st2, fun σ' H'' ⟨bs2, st2, v3, v4, v5, l, e, i⟩ => ⟨_, l, bs2, st2, v3, v4, v5, rfl, e, i⟩, ?_⟩
      refine ⟨_, rfl, .inl ⟨rfl, ws, SqL.of hSw⟩, S, ws, .ref c, rfl, rfl, hSw, by rw [lws]; exact ec, ?_⟩
      have nFS' := nFS
      have hws' : WtsAt K H' ws.dropLast st' := by
        refine ⟨by rw [List.length_dropLast]; omega, fun i x e => ?_⟩
        have hi := (List.getElem?_eq_some_iff.mp e).1
        obtain ⟨c, v, h1, h2⟩ := hws.2 i x (by rw [List.getElem?_append_left hi]; exact e)
        exact ⟨c, v, by rw [List.getElem?_dropLast, if_pos (by omega)]; exact h1, h2⟩
      have kt4 : KT K H' (upd H' S (.lst ws.dropLast)) := But.ktL But.upd hSw
      have hF4 : (upd H' S (.lst ws.dropLast)) F = some (.lst us) := by rw [upd_ne nFS]; exact hFu
      have hS4 := upd_same (H := H') (a := S) (o := .lst ws.dropLast)
      have sm4 : Same H (upd H' S (.lst ws.dropLast)) := fun x o e => by rw [upd_ne (ne_of_none e hSH)]; exact I.sm x o e
      have hus4 := hus.kt kt4
      have hws4 := hws'.kt kt4
      have hc4 := kt4 _ _ hc
      have hv4 := hv.kt kt4
      generalize upd H' S (.lst ws.dropLast) = H4 at hF4 hS4 sm4 hus4 hws4 hc4 hv4 ⊢
      refine ⟨c, [v, nV t.2], rfl, hc4, rfl, _, _, rfl, _, _, rfl, rfl, ?_⟩
      refine ⟨_, rfl, t.1, v, rfl, hv4, Wt.parts_len o1, Wt.parts_one o1, fun tt ps H5 htt hps s5 => ?_⟩
      have sm5 := sm4.trans s5
      have hF5 := s5 _ _ hF4
      have hS5 := s5 _ _ hS4
      have hus5 := hus4.kt (Same.kt s5)
      have hws5 := hws4.kt (Same.kt s5)
      have hv5 := hv4.kt (Same.kt s5)
      have lps := hps.len
      have l16 := Wt.deep1 t.1
      have eall := I.all
      rw [List.map_append, List.reverse_append] at eall
      have eall : bs ++ (t.1.boxes ++ boxesL (st'.map (·.1)).reverse) = w0.boxes := by rw [← boxesL_cons]; exact eall
      by_cases hb : t.1.parts = []
      · obtain ⟨b, eb⟩ := Wt.parts_nil o1 hb
        have : ps = [] := List.eq_nil_of_length_eq_zero (by rw [lps, hb]; rfl)
        subst this
        obtain ⟨a, rfl, ha⟩ : ∃ a, v = .ref a ∧ BxAt K H5 a b := by rw [eb] at hv5; exact hv5
        have bok : b.ok := ok.b b (by rw [← eall, eb, Wt.boxes]; simp)
        refine ⟨_, rfl, false, .inr (.inl ⟨[], htt, rfl⟩), iteT ?_⟩
        refine ⟨_, rfl, a, b, rfl, ha, bok, fun H6 s6 => ⟨_, rfl, iteF ?_⟩⟩
        refine ⟨_, rfl, _, _, rfl, rfl, _, rfl, (if_neg (by simp; omega)).mpr ?_⟩
        refine ⟨_, rfl, false, .inr (.inl ⟨[], Same.tup s6 htt, rfl⟩), iteF ?_⟩
        have hF6 := s6 _ _ hF5
        have lus := hus5.1
        have l60 : us.length < 60 := by
          rw [eb, Wt.boxes] at eall
          have := congrArg List.length eall
          simp only [List.length_append, List.length_singleton] at this
          have := ok.m; omega
        refine ⟨_, rfl, .inl ⟨rfl, us, SqL.of hF6⟩, _, rfl, F, us, .ref a, rfl, rfl, hF6, Nat.lt_trans l60 (by decide), ?_⟩
        have kt7 : KT K H6 (upd H6 F (.lst (us ++ [.ref a]))) := But.ktL But.upd hF6
        refine ⟨_, rfl, F, _, rfl, .inl (SqL.of upd_same), _, _, rfl, rfl, _, rfl, (if_neg (by simp; omega)).mpr ?_⟩
        refine ⟨bs ++ [b], st', _, _, _, ?_, rfl, fun x o e => by rw [upd_ne (ne_of_none e hF)]; exact s6 _ _ (sm5 x o e), ⟨_, upd_same, ((hus5.kt (Same.kt s6)).add (ha.kt (Same.kt s6))).kt kt7⟩, ⟨ws.dropLast, by rw [upd_ne nFS.symm]; exact s6 _ _ hS5, (hws5.kt (Same.kt s6)).kt kt7⟩, ?_, fun x hx => I.ok x (by simp [hx])⟩
        · rw [List.map_append, sizeL_app]
          show _ < _ + sizeL [t.1]
          rw [sizeL_cons, sizeL_nil]
          have := Wt.size1 t.1; omega
        · rw [eb, Wt.boxes] at eall
          rw [List.append_assoc]; exact eall
      · have pn : ps ≠ [] := fun z => hb (List.eq_nil_of_length_eq_zero (by rw [← lps, z]; rfl))
        have p12 := Wt.parts_len o1
        refine ⟨_, rfl, true, .inr (.inl ⟨ps, htt, by cases ps with | nil => exact absurd rfl pn | cons _ _ => rfl⟩), iteF ?_⟩
        refine ⟨_, rfl, _, _, rfl, rfl, _, rfl, (if_neg (by simp; omega)).mpr ?_⟩
        refine ⟨_, rfl, true, .inr (.inl ⟨ps, htt, by cases ps with | nil => exact absurd rfl pn | cons _ _ => rfl⟩), iteT ?_⟩
        refine ⟨_, rfl, .inl ⟨rfl, _, SqL.of hS5⟩, _, rfl, tt, ps, rfl, htt, fun D hD => ?_⟩
        refine lc_revT (K := K) (a := tt) (xs := ps) (fun i H6 => Same H5 H6 ∧ ∃ zs, H6 D = some (.lst zs) ∧ WtsAt K H6 zs ((t.1.parts.reverse.take i).map fun w => (w, t.2 + 1))) ⟨Same.new hD, [], upd_same, rfl, fun i b e => by simp at e⟩ (fun i H6 _ p => Same.tup p.1 htt) (fun i x H6 ex hi ⟨s6, zs, hz, hzs⟩ => ?_) (fun H6 ⟨s6, zs, hz, hzs⟩ => ?_)
        · have hi2 : i < t.1.parts.length := by omega
          obtain ⟨x', ex', hx'⟩ := hps.at (List.getElem?_eq_getElem (show t.1.parts.length - 1 - i < t.1.parts.length by omega))
          rw [← lps, ex] at ex'
          cases ex'
          refine ⟨rfl, yes_if ?_⟩
          refine ⟨_, rfl, _, rfl, _, _, rfl, rfl, ?_⟩
          refine ⟨by show 2 ≤ sizeLine; decide, fun p hp => ?_⟩
          have s7 := Same.new (o := .tup [x, V.int ((t.2 : Nat) + 1)]) hp
          have hz7 := s7 _ _ hz
          have lzs : zs.length ≤ 12 := by have := hzs.1; rw [List.length_map, List.length_take, List.length_reverse] at this; omega
          refine ⟨zs, hz7, Nat.lt_of_le_of_lt lzs (by decide), fun y o e => by rw [upd_ne (ne_of_none e hD)]; exact s7 _ _ (s6 _ _ e), zs ++ [.ref p], upd_same, ?_⟩
          have et : t.1.parts.reverse.take (i + 1) = t.1.parts.reverse.take i ++ [t.1.parts[t.1.parts.length - 1 - i]] := by
            rw [List.take_add_one, List.getElem?_reverse hi2, List.getElem?_eq_getElem (show t.1.parts.length - 1 - i < t.1.parts.length by omega)]; rfl
          rw [et, List.map_append]
          refine WtsAt.kt (H := upd H6 p (.tup [x, V.int ((t.2 : Nat) + 1)])) ?_ (But.ktL But.upd hz7)
          exact (hzs.kt (Same.kt s7)).add (t := (_, t.2 + 1)) (SqT.of (by rw [upd_same]; rfl)) (hx'.kt (Same.kt (s6.trans s7)))
        · have hS6 := s6 _ _ hS5
          have hF6 := s6 _ _ hF5
          have lzs := hzs.1
          rw [lps, ← List.length_reverse, List.take_length] at hzs
          rw [List.length_map, List.length_take, List.length_reverse] at lzs
          refine ⟨S, D, ws.dropLast, zs, rfl, rfl, hS6, hz, Nat.le_trans (show _ ≤ 100 by rw [List.length_dropLast]; omega) (by decide), ?_⟩
          have kt7 : KT K H6 (upd H6 S (.lst (ws.dropLast ++ zs))) := But.ktL But.upd hS6
          have hF7 : (upd H6 S (.lst (ws.dropLast ++ zs))) F = some (.lst us) := by rw [upd_ne nFS]; exact hF6
          have lus := hus5.1
          have l60 : us.length ≤ 60 := by rw [lus]; omega
          refine ⟨_, rfl, F, us, rfl, .inl (SqL.of hF7), _, _, rfl, rfl, _, rfl, (if_neg (by simp; omega)).mpr ?_⟩
          refine ⟨bs, st' ++ t.1.parts.reverse.map fun w => (w, t.2 + 1), _, _, _, ?_, rfl, fun x o e => by rw [upd_ne (ne_of_none e hSH)]; exact s6 _ _ (sm5 x o e), ⟨us, hF7, (hus5.kt (Same.kt s6)).kt kt7⟩, ⟨_, upd_same, ((hws5.kt (Same.kt s6)).app hzs).kt kt7⟩, ?_, fun x hx => ?_⟩
          · rw [List.map_append, List.map_append, sizeL_app, sizeL_app, List.map_map]
            show sizeL _ + sizeL (List.map (fun w => w) t.1.parts.reverse) < _ + sizeL [t.1]
            rw [List.map_id'', sizeL_rev, sizeL_cons, sizeL_nil]
            have := Wt.parts_size hb; omega
            exact fun _ => rfl
          · rw [List.map_append, List.reverse_append, List.map_map]
            show bs ++ boxesL ((List.map (fun w => w) t.1.parts.reverse).reverse ++ _) = _
            rw [List.map_id'' (fun _ => rfl), List.reverse_reverse, boxesL_app, Wt.parts_boxes hb]; exact eall
          · rcases List.mem_append.mp hx with h | h
            · exact I.ok x (by simp [h])
            · obtain ⟨y, hy, rfl⟩ := List.mem_map.mp h
              rw [List.mem_reverse] at hy
              have := Wt.parts_deep hy
              exact ⟨Wt.parts_okj o1 hy, by show y.deep + (t.2 + 1) ≤ 17; omega, by show 1 ≤ t.2 + 1; omega⟩
end
end L2.Lw

set_option Elab.async false
set_option linter.all false
set_option maxRecDepth 100000
namespace L2.Lw
open PySem PySem.Spec PyProof.Rows
/-! ### ends of parts -/
theorem for_zipM {K : PySem.W.Frag} {a b : Addr} {xs ys : List V} {g : TG} {tb : TS} {D : Ends} {σ : St} {H : Hp} (Pv : Nat → St → Hp → Prop) (hxy : ys.length ≤ xs.length) (h0 : Pv 0 σ H) (hl : ∀ i σ H, Pv i σ H → SqL K H a xs ∧ SqL K H b ys)
    (hs : ∀ i x y σ H T, xs[i]? = some x → ys[i]? = some y → Pv i σ H → H T = none → g (.ref T) σ (upd H T (.tup [x, y])) fun σ2 H2 => tb { D with nx := Pv (i + 1), ct := Pv (i + 1), bk := D.nx } σ2 H2) (hd : ∀ σ H, Pv ys.length σ H → D.nx σ H) :
    ∃ W : Nat → Nat → St → Hp → Prop, (∃ m, W 0 m σ H) ∧ ∀ i m σ H, W i m σ H →
      ((Itz K a b).stop i H ∧ D.nx σ H) ∨ ((Itz K a b).go i H ∧ ∃ N : St → Hp → Prop, (∀ σ' H', N σ' H' → ∃ m', m' < m ∧ W (i + 1) m' σ' H') ∧ ∀ x H', (Itz K a b).yld i H x H' → g x σ H' fun σ2 H2 => tb { D with nx := N, ct := N, bk := D.nx } σ2 H2) := by
  refine ⟨fun i m σ H => m = ys.length - i ∧ i ≤ ys.length ∧ Pv i σ H, ⟨ys.length, by simp, Nat.zero_le _, h0⟩, ?_⟩
  rintro i m σ H ⟨rfl, hi, p⟩
  obtain ⟨qa, qb⟩ := hl i σ H p
  by_cases hlt : i < ys.length
  · have ex : xs[i]? = some (xs[i]'(by omega)) := List.getElem?_eq_getElem (by omega)
    have ey : ys[i]? = some ys[i] := List.getElem?_eq_getElem hlt
    refine .inr ⟨⟨xs, ys, _, _, qa, qb, ex, ey⟩, Pv (i + 1), fun σ' H' p' => ⟨ys.length - (i + 1), by omega, rfl, hlt, p'⟩, fun v H' y => ?_⟩
    obtain ⟨T, x, y, rfl, hT, rfl, fx, fy⟩ := y
    exact hs i x y σ H T (fx xs qa) (fy ys qb) p hT
  · have e : i = ys.length := by omega
    subst e
    exact .inl ⟨⟨xs, ys, qa, qb, .inr (Nat.le_refl _)⟩, hd σ H p⟩
def PrsAt (K : PySem.W.Frag) (H : Hp) (us : List V) (es : List (Nat × Nat)) : Prop := us.length = es.length ∧ ∀ (i : Nat) (e : Nat × Nat), es[i]? = some e → ∃ t : Addr, us[i]? = some (.ref t) ∧ SqT K H t [nV e.1, nV e.2]
theorem PrsAt.kt {K : PySem.W.Frag} {H H' : Hp} {us : List V} {es : List (Nat × Nat)} (h : PrsAt K H us es) (k : KT K H H') : PrsAt K H' us es := ⟨h.1, fun i b e => let ⟨a, x, y⟩ := h.2 i b e; ⟨a, x, k _ _ y⟩⟩
theorem PrsAt.get {K : PySem.W.Frag} {H : Hp} {us : List V} {es : List (Nat × Nat)} (h : PrsAt K H us es) {i : Nat} {x : V} (e : us[i]? = some x) : ∃ (r : Nat × Nat) (t : Addr), es[i]? = some r ∧ x = .ref t ∧ SqT K H t [nV r.1, nV r.2] := by
  have hi := (List.getElem?_eq_some_iff.mp e).1
  have hi2 : i < es.length := by have := h.1; omega
  obtain ⟨t, e2, q⟩ := h.2 i _ (List.getElem?_eq_getElem hi2)
  rw [e] at e2
  exact ⟨_, t, List.getElem?_eq_getElem hi2, Option.some.inj e2, q⟩
/-- chains that fit -/
theorem thnE_fit : ∀ {es : List (Nat × Nat)} {r : Nat × Nat}, thnE es = some r → (∃ e, es[0]? = some e ∧ e.1 = r.1) ∧ (∃ e, es[es.length - 1]? = some e ∧ e.2 = r.2) ∧ ∀ (i : Nat) (e f : Nat × Nat), es[i]? = some e → es[i + 1]? = some f → e.2 = f.1
  | [], r, h => by cases h
  | [e], r, h => by cases h; exact ⟨⟨_, rfl, rfl⟩, ⟨_, rfl, rfl⟩, fun i x y h1 h2 => by simp at h2⟩
  | e :: f :: es, r, h => by
    unfold thnE at h
    by_cases c : e.2 = f.1
    · rw [if_pos c] at h
      obtain ⟨g, hg, rfl⟩ := Option.map_eq_some_iff.mp h
      obtain ⟨h1, ⟨l, hl, el⟩, h3⟩ := thnE_fit hg
      refine ⟨⟨_, rfl, rfl⟩, ⟨l, ?_, el⟩, fun i x y hx hy => ?_⟩
      · rw [List.length_cons, Nat.add_sub_cancel]
        rw [List.length_cons, Nat.add_sub_cancel] at hl
        show (e :: f :: es)[es.length + 1]? = _
        rw [List.getElem?_cons_succ]; exact hl
      · rcases i with _ | i
        · simp at hx hy; subst hx hy; exact c
        · exact h3 i x y (by simpa using hx) (by simpa using hy)
    · rw [if_neg c] at h; cases h
def spBxE (K : PySem.W.Frag) : Sp := fun vs H Q _ => ∃ (a : Addr) (b : Bx), vs = [.ref a] ∧ BxAt K H a b ∧ b.ok ∧ ∀ (t : Addr) H', SqT K H' t [nV b.ends.1, nV b.ends.2] → Same H H' → Q (.ref t) H'
def spJoin (K : PySem.W.Frag) (J : List (Nat × Nat) → Option (Nat × Nat)) : Sp := fun vs H Q _ => ∃ (l : Addr) (us : List V) (es : List (Nat × Nat)) (r : Nat × Nat), vs = [.ref l] ∧ SqL K H l us ∧ PrsAt K H us es ∧ es.length ≤ 12 ∧ J es = some r ∧ ∀ (t : Addr) H', SqT K H' t [nV r.1, nV r.2] → Same H H' → Q (.ref t) H'
section
variable {P : Program} {w : World} {K : PySem.W.Frag} {mg : Str → Option Value} {base : Heap}
theorem sc_box_ends : FnScope ["box", "word"] ["box"] (defScope s_box_ends) := ⟨rfl, rfl, rfl, by decide +kernel, rfl, by decide +kernel, by decide +kernel⟩
theorem ok_box_ends (d : Dfn K mg "box_ends" s_box_ends ["box"]) (T : Bi mg) : Cal P w K mg base "box_ends" 1 ["box"] (spBxE K) (Pla K ["box"]) := by
  refine d.ok sc_box_ends (fun vs H Q E h => ?_) (fun f cdv A outer s H vs Q E hr h => ?_)
  · obtain ⟨a, b, rfl, _⟩ := h; rfl
  · obtain ⟨a, b, rfl, ha, hb, k⟩ := h
    have nd := sc_box_ends.nd
    obtain ⟨rest, hd⟩ := ha.hd
    refine ⟨_, (pss_cons (ps_set (i := 1) nd rfl (by first | exact Or.inl rfl | exact Or.inr rfl) (pe_ix (ixT K) (pv 0) pe_int (fun _ _ => rfl)))
      (pss_cons (ps_if (pt_cmpR op_eq (pv 1) pe_str (nomark _)) (pss_one (ps_ret (pe_tup (pa_cons pe_int (pa_cons (pe_ix (ixT K) (pv 0) pe_int (fun _ _ => rfl)) pa_nil))))) pss_nil)
      (pss_cons (ps_if (pt_cmpR op_eq (pv 1) pe_str (nomark _)) (pss_one (ps_ret (pe_tup (pa_cons (pe_ix (ixT K) (pv 0) pe_int (fun _ _ => rfl)) (pa_cons pe_int pa_nil))))) pss_nil)
      (pss_cons (ps_if (pt_cmpR op_eq (pv 1) pe_str (nomark _)) (pss_one (ps_ret (pe_tup (pa_cons (pe_callB (lenS K) (by rfl) T.len (by decide +kernel) (pa_cons (pe_ix (ixT K) (pe_ix (ixT K) (pv 0) pe_int (fun _ _ => rfl)) pe_int (fun _ _ => rfl)) pa_nil)) (pa_cons (pe_callB (lenS K) (by rfl) T.len (by decide +kernel) (pa_cons (pe_ix (ixT K) (pv 0) pe_int (fun _ _ => rfl)) pa_nil)) pa_nil))))) pss_nil)
      (pss_cons (ps_if (pt_cmpR op_eq (pv 1) pe_str (nomark _)) (pss_one (ps_ret (pe_tup (pa_cons (pe_callB (lenS K) (by rfl) T.len (by decide +kernel) (pa_cons (pe_ix (ixT K) (pv 0) pe_int (fun _ _ => rfl)) pa_nil)) (pa_cons (pe_callB (lenS K) (by rfl) T.len (by decide +kernel) (pa_cons (pe_ix (ixT K) (pv 0) pe_int (fun _ _ => rfl)) pa_nil)) pa_nil))))) pss_nil)
      (pss_one (ps_ret (pe_tup (pa_cons pe_int (pa_cons pe_int pa_nil)))))))))), ?_⟩
    refine ⟨_, rfl, a, _, _, .str b.word, rfl, rfl, hd, atI_zero, ?_⟩
    refine ⟨_, rfl, rfl, _, rfl, ?_⟩
    cases b with
    | wire =>
      refine (if_neg (show ¬ (decide (V.str "wire" = V.str "copy") = true) by decide +kernel)).mpr ⟨_, rfl, rfl, _, rfl, ?_⟩
      refine (if_neg (show ¬ (decide (V.str "wire" = V.str "sum") = true) by decide +kernel)).mpr ⟨_, rfl, rfl, _, rfl, ?_⟩
      refine (if_neg (show ¬ (decide (V.str "wire" = V.str "mix") = true) by decide +kernel)).mpr ⟨_, rfl, rfl, _, rfl, ?_⟩
      refine (if_neg (show ¬ (decide (V.str "wire" = V.str "shuffle") = true) by decide +kernel)).mpr ?_
      refine ⟨by show 2 ≤ sizeLine; decide, fun p hp => ?_⟩
      exact k p _ (SqT.of upd_same) (Same.new hp)
    | lag =>
      refine (if_neg (show ¬ (decide (V.str "lag" = V.str "copy") = true) by decide +kernel)).mpr ⟨_, rfl, rfl, _, rfl, ?_⟩
      refine (if_neg (show ¬ (decide (V.str "lag" = V.str "sum") = true) by decide +kernel)).mpr ⟨_, rfl, rfl, _, rfl, ?_⟩
      refine (if_neg (show ¬ (decide (V.str "lag" = V.str "mix") = true) by decide +kernel)).mpr ⟨_, rfl, rfl, _, rfl, ?_⟩
      refine (if_neg (show ¬ (decide (V.str "lag" = V.str "shuffle") = true) by decide +kernel)).mpr ?_
      refine ⟨by show 2 ≤ sizeLine; decide, fun p hp => ?_⟩
      exact k p _ (SqT.of upd_same) (Same.new hp)
    | weigh n =>
      refine (if_neg (show ¬ (decide (V.str "weigh" = V.str "copy") = true) by decide +kernel)).mpr ⟨_, rfl, rfl, _, rfl, ?_⟩
      refine (if_neg (show ¬ (decide (V.str "weigh" = V.str "sum") = true) by decide +kernel)).mpr ⟨_, rfl, rfl, _, rfl, ?_⟩
      refine (if_neg (show ¬ (decide (V.str "weigh" = V.str "mix") = true) by decide +kernel)).mpr ⟨_, rfl, rfl, _, rfl, ?_⟩
      refine (if_neg (show ¬ (decide (V.str "weigh" = V.str "shuffle") = true) by decide +kernel)).mpr ?_
      refine ⟨by show 2 ≤ sizeLine; decide, fun p hp => ?_⟩
      exact k p _ (SqT.of upd_same) (Same.new hp)
    | copy n =>
      refine (if_pos (show decide (V.str "copy" = V.str "copy") = true by decide +kernel)).mpr ?_
      refine ⟨_, rfl, a, _, _, nV n, rfl, rfl, ha, atI_one, by show 2 ≤ sizeLine; decide, fun p hp => ?_⟩
      exact k p _ (SqT.of upd_same) (Same.new hp)
    | sum n =>
      refine (if_neg (show ¬ (decide (V.str "sum" = V.str "copy") = true) by decide +kernel)).mpr ⟨_, rfl, rfl, _, rfl, ?_⟩
      refine (if_pos (show decide (V.str "sum" = V.str "sum") = true by decide +kernel)).mpr ?_
      refine ⟨_, rfl, a, _, _, nV n, rfl, rfl, ha, atI_one, by show 2 ≤ sizeLine; decide, fun p hp => ?_⟩
      exact k p _ (SqT.of upd_same) (Same.new hp)
    | shuf l =>
      obtain ⟨b2, ha, hb2⟩ := ha
      refine (if_neg (show ¬ (decide (V.str "shuffle" = V.str "copy") = true) by decide +kernel)).mpr ⟨_, rfl, rfl, _, rfl, ?_⟩
      refine (if_neg (show ¬ (decide (V.str "shuffle" = V.str "sum") = true) by decide +kernel)).mpr ⟨_, rfl, rfl, _, rfl, ?_⟩
      refine (if_neg (show ¬ (decide (V.str "shuffle" = V.str "mix") = true) by decide +kernel)).mpr ⟨_, rfl, rfl, _, rfl, ?_⟩
      refine (if_pos (show decide (V.str "shuffle" = V.str "shuffle") = true by decide +kernel)).mpr ?_
      refine ⟨_, rfl, a, _, _, V.ref b2, rfl, rfl, ha, atI_one, b2, _, rfl, .inr hb2, _, rfl, a, _, _, V.ref b2, rfl, rfl, ha, atI_one, b2, _, rfl, .inr hb2, by show 2 ≤ sizeLine; decide, fun p hp => ?_⟩
      exact k p _ (SqT.of (by rw [upd_same, List.length_map]; rfl)) (Same.new hp)
    | mix l =>
      obtain ⟨b2, us, ha, hb2, lu, hu⟩ := ha
      refine (if_neg (show ¬ (decide (V.str "mix" = V.str "copy") = true) by decide +kernel)).mpr ⟨_, rfl, rfl, _, rfl, ?_⟩
      refine (if_neg (show ¬ (decide (V.str "mix" = V.str "sum") = true) by decide +kernel)).mpr ⟨_, rfl, rfl, _, rfl, ?_⟩
      refine (if_pos (show decide (V.str "mix" = V.str "mix") = true by decide +kernel)).mpr ?_
      obtain ⟨m1, m2, m3, m4⟩ := hb
      obtain ⟨c0, ns0, e0, en0, q0⟩ : ∃ c0 ns0, us[0]? = some (V.ref c0) ∧ ns0 = l.headD [] ∧ SqT K H c0 (ns0.map nV) := by
        cases l with
        | nil => simp at m1
        | cons x l =>
          obtain ⟨c0, e0, q0⟩ := hu 0 x rfl
          exact ⟨c0, x, e0, rfl, q0⟩
      subst en0
      refine ⟨_, rfl, a, _, _, V.ref b2, rfl, rfl, ha, atI_one, b2, us, _, _, rfl, rfl, hb2, atI_nat (j := 0) e0, c0, _, rfl, .inr q0, _, rfl, a, _, _, V.ref b2, rfl, rfl, ha, atI_one, b2, _, rfl, .inr hb2, by show 2 ≤ sizeLine; decide, fun p hp => ?_⟩
      exact k p _ (SqT.of (by rw [upd_same, List.length_map, lu]; rfl)) (Same.new hp)
end
end L2.Lw

set_option Elab.async false
set_option linter.all false
set_option maxRecDepth 100000
namespace L2.Lw
open PySem PySem.Spec PyProof.Rows
theorem sumK {X : Cx} (K : PySem.W.Frag) (hc : X.calm = true) (h : X.K = K := by rfl) : CallR X (.builtin "sum") (rSum K) := h ▸ cr_sum hc
theorem cutV_one {xs : List V} (h : 1 ≤ xs.length) : cutV xs (some 1) none = xs.drop 1 := by
  unfold cutV
  rw [HT.sIx_none, show HT.sIx xs.length 0 (some (1 : Int)) = 1 by
    show (if (1 : Int) < 0 then ((1 : Int) + (xs.length : Int)).toNat else min (1 : Int).toNat xs.length) = _
    rw [if_neg (by omega)]; show min 1 xs.length = 1; omega]
  rw [List.take_of_length_le (by rw [List.length_drop]; omega)]
/-- what joins, or is refused -/
def spJoinX (K : PySem.W.Frag) (Cu : Addr) (j : List (Nat × Nat) → Option (Nat × Nat)) : Sp := fun vs H Q E => ∃ (l : Addr) (us : List V) (es : List (Nat × Nat)), vs = [.ref l] ∧ SqL K H l us ∧ PrsAt K H us es ∧ 1 ≤ es.length ∧ es.length ≤ 12 ∧
  (∀ r, j es = some r → ∀ (t : Addr) H', SqT K H' t [nV r.1, nV r.2] → Same H H' → Q (.ref t) H') ∧ (j es = none → Comes E H "Unshaped" Cu)
theorem thnE_not : ∀ {es : List (Nat × Nat)}, 1 ≤ es.length → thnE es = none → ∃ (i : Nat) (e f : Nat × Nat), es[i]? = some e ∧ es[i + 1]? = some f ∧ e.2 ≠ f.1
  | [], h, _ => by simp at h
  | [e], _, h => by cases h
  | e :: f :: es, _, h => by
    unfold thnE at h
    by_cases c : e.2 = f.1
    · rw [if_pos c] at h
      have h2 : thnE (f :: es) = none := by
        cases q : thnE (f :: es) with
        | none => rfl
        | some g => rw [q] at h; cases h
      obtain ⟨i, x, y, h3, h4, h5⟩ := thnE_not (by simp) h2
      exact ⟨i + 1, x, y, h3, h4, h5⟩
    · exact ⟨0, e, f, rfl, rfl, c⟩
section
variable {P : Program} {w : World} {K : PySem.W.Frag} {mg : Str → Option Value} {base : Heap} {Cu : Addr}
theorem sc_then_ends : FnScope ["ends", "before", "behind"] ["ends"] (defScope s_then_ends) := ⟨rfl, rfl, rfl, by decide +kernel, rfl, by decide +kernel, by decide +kernel⟩
theorem ok_then_ends (d : Dfn K mg "then_ends" s_then_ends ["ends"]) (T : Bi mg) (r_Unshaped : Rais P w K mg base "Unshaped" Cu) : CalX P w K mg base "then_ends" 4 ["ends"] (spJoinX K Cu thnE) (Pla K ["ends"]) := by
  obtain ⟨f, fd, F, m, b⟩ := d.ex
  have FD : FunD K "then_ends" "then_ends" s_then_ends .none f fd := ⟨F.ex⟩
  refine ⟨f, fd, FD.okX sc_then_ends (fun vs H Q E h => ?_) (fun cdv A outer s H vs Q E hr h => ?_), m, F.kp, b⟩
  · obtain ⟨l, us, es, rfl, _⟩ := h; rfl
  · obtain ⟨l, us, es, rfl, hl, hus, l1, l12, k1, k2⟩ := h
    have nd := sc_then_ends.nd
    have lus := hus.1
    refine ⟨_, (pss_cons (ps_for (by exact PassesOwn.leaving) rfl (pi_zip (by rfl) T.zip (pa_cons (pv 0) (pa_cons (pe_slice (slL K) (pv 0) (po_some pe_int) po_none) pa_nil))) (pg_tup rfl (pgs_cons (pg_name (i := 1) nd rfl (by first | exact Or.inl rfl | exact Or.inr rfl)) (pgs_cons (pg_name (i := 2) nd rfl (by first | exact Or.inl rfl | exact Or.inr rfl)) pgs_nil))) (pss_one (ps_if (pt_cmpR op_ne (pe_ix (ixT K) (pv 1) pe_int (fun _ _ => rfl)) (pe_ix (ixT K) (pv 2) pe_int (fun _ _ => rfl)) (nomark _)) (pss_one (ps_rais r_Unshaped (hr.mono (by omega)) (by rfl))) pss_nil)))
      (pss_one (ps_ret (pe_tup (pa_cons (pe_ix (ixT K) (pe_ix (ixL K) (pv 0) pe_int (fun _ _ => rfl)) pe_int (fun _ _ => rfl)) (pa_cons (pe_ix (ixT K) (pe_ix (ixL K) (pv 0) (pe_un un_neg pe_int) (fun _ _ => rfl)) pe_int (fun _ _ => rfl)) pa_nil)))))), ?_⟩
    refine ⟨_, rfl, _, rfl, 1, rfl, l, us, rfl, hl, fun p hp => ?_⟩
    have ep : (upd H p (.lst (cutV us (some 1) none))) p = some (.lst (us.drop 1)) := by rw [upd_same, cutV_one (by omega)]
    have s1 := Same.new (o := .lst (cutV us (some 1) none)) hp
    generalize upd H p (.lst (cutV us (some 1) none)) = H1 at ep s1 ⊢
    refine ⟨l, p, us, us.drop 1, rfl, Same.seq s1 hl, SqL.of ep, ?_⟩
    refine for_zipM (K := K) (a := l) (b := p) (xs := us) (ys := us.drop 1) (fun i σ H' => ∃ v1 v2, σ = [some (.ref l), v1, v2] ∧ Same H1 H' ∧ ∀ (k : Nat) (e f : Nat × Nat), k < i → es[k]? = some e → es[k + 1]? = some f → e.2 = f.1) (by rw [List.length_drop]; omega) ⟨none, none, rfl, Same.refl _, fun k _ _ h => absurd h (Nat.not_lt_zero _)⟩ (fun i σ H' ⟨_, _, _, s, _⟩ => ⟨Same.seq (s1.trans s) hl, SqL.of (s _ _ ep)⟩) ?_ ?_
    · rintro i x y σ H2 t hx hy ⟨v1, v2, rfl, s2, fit⟩ ht
      rw [List.getElem?_drop, Nat.add_comm] at hy
      obtain ⟨e, tx, ee, rfl, hex⟩ := hus.get hx
      obtain ⟨f, ty, ef, rfl, hey⟩ := hus.get hy
      have s3 := s2.trans (Same.new (o := .tup [.ref tx, .ref ty]) ht)
      have s13 := s1.trans s3
      refine ⟨t, [.ref tx, .ref ty], rfl, SqT.of upd_same, rfl, _, _, rfl, _, _, rfl, rfl, ?_⟩
      refine ⟨_, rfl, tx, _, _, nV e.2, rfl, rfl, Same.tup s13 hex, atI_one, _, rfl, ty, _, _, nV f.1, rfl, rfl, Same.tup s13 hey, atI_zero, by simp [scal, nV], _, rfl, ?_⟩
      by_cases c : e.2 = f.1
      · rw [decide_eq_true (show nV e.2 = nV f.1 by rw [c])]
        refine iteF ⟨_, _, rfl, s3, fun k e' f' hk h1 h2 => ?_⟩
        by_cases q : k < i
        · exact fit k e' f' q h1 h2
        · obtain rfl : k = i := by omega
          rw [ee] at h1; rw [ef] at h2; cases h1; cases h2; exact c
      · rw [decide_eq_false (show ¬ nV e.2 = nV f.1 from fun z => c (by have := V.int.inj z; omega))]
        refine iteT ((k2 ?_).same s13)
        cases hz : thnE es with
        | none => rfl
        | some r => exact absurd ((thnE_fit hz).2.2 i e f ee ef) c
    · rintro σ H2 ⟨v1, v2, rfl, s2, fit⟩
      have s12 := s1.trans s2
      obtain ⟨r, hr'⟩ : ∃ r, thnE es = some r := by
        cases hz : thnE es with
        | some r => exact ⟨r, rfl⟩
        | none =>
          obtain ⟨i, e, f, h1, h2, h3⟩ := thnE_not l1 hz
          refine absurd (fit i e f ?_ h1 h2) h3
          have := (List.getElem?_eq_some_iff.mp h2).1
          rw [List.length_drop]; omega
      have k := k1 r hr'
      obtain ⟨⟨e0, he0, h0⟩, ⟨e1, he1, h1⟩, _⟩ := thnE_fit hr'
      obtain ⟨t0, et0, ht0⟩ := hus.2 0 e0 he0
      obtain ⟨t1, et1, ht1⟩ := hus.2 _ e1 he1
      refine ⟨_, rfl, l, us, _, _, rfl, rfl, Same.seq s12 hl, atI_nat (j := 0) et0, t0, _, _, nV e0.1, rfl, rfl, Same.tup s12 ht0, atI_zero, _, rfl, _, rfl, l, us, _, V.ref t1, rfl, rfl, Same.seq s12 hl, ?_, t1, _, _, nV e1.2, rfl, rfl, Same.tup s12 ht1, atI_one, by show 2 ≤ sizeLine; decide, fun p2 hp2 => ?_⟩
      · rcases List.eq_nil_or_concat us with e | ⟨q, x, e⟩
        · rw [e] at lus; simp at lus; omega
        · rw [List.concat_eq_append] at e
          rw [e, List.length_append, List.length_singleton] at lus
          rw [e, show es.length - 1 = q.length by omega, List.getElem?_append_right (Nat.le_refl _), Nat.sub_self] at et1
          cases et1
          rw [e]; exact atI_last _ _
      · exact k p2 _ (SqT.of (by rw [upd_same, h0, h1])) (s12.trans (Same.new hp2))
theorem sc_beside_ends : FnScope ["ends", "left", "right"] ["ends"] (defScope s_beside_ends) := ⟨rfl, rfl, rfl, by decide +kernel, rfl, by decide +kernel, by decide +kernel⟩
theorem ok_beside_ends (d : Dfn K mg "beside_ends" s_beside_ends ["ends"]) (T : Bi mg) (hsum : mg "sum" = none) : Cal P w K mg base "beside_ends" 1 ["ends"] (spJoin K fun es => some (besE es)) (Pla K ["ends"]) := by
  refine d.ok sc_beside_ends (fun vs H Q E h => ?_) (fun f cdv A outer s H vs Q E hr h => ?_)
  · obtain ⟨l, us, es, r, rfl, _⟩ := h; rfl
  · obtain ⟨l, us, es, r, rfl, hl, hus, l12, hr', k⟩ := h
    have nd := sc_beside_ends.nd
    cases hr'
    have lus := hus.1
    refine ⟨_, (pss_one (ps_ret (pe_tup (pa_cons (pe_callB (sumK K rfl) (by rfl) hsum (by decide +kernel) (pa_cons (pe_lc (own := [("left", 1), ("right", 2)]) (g := _) (by rfl) nd (piL K (pv 0)) (blkOk_by (own := [("left", 1), ("right", 2)]) (N := ["ends", "left", "right"]) (sc := defScope s_beside_ends) (by decide +kernel)) (fun _ _ _ _ _ => (pgT K 2 rfl (pgs_cons (pg_name (i := 1) nd rfl (by first | exact Or.inl rfl | exact Or.inr rfl)) (pgs_cons (pg_name (i := 2) nd rfl (by first | exact Or.inl rfl | exact Or.inr rfl)) pgs_nil)))) (fun _ _ _ _ _ => pts_nil) (fun _ _ _ _ _ => (pv 1))) pa_nil)) (pa_cons (pe_callB (sumK K rfl) (by rfl) hsum (by decide +kernel) (pa_cons (pe_lc (own := [("left", 1), ("right", 2)]) (g := _) (by rfl) nd (piL K (pv 0)) (blkOk_by (own := [("left", 1), ("right", 2)]) (N := ["ends", "left", "right"]) (sc := defScope s_beside_ends) (by decide +kernel)) (fun _ _ _ _ _ => (pgT K 2 rfl (pgs_cons (pg_name (i := 1) nd rfl (by first | exact Or.inl rfl | exact Or.inr rfl)) (pgs_cons (pg_name (i := 2) nd rfl (by first | exact Or.inl rfl | exact Or.inr rfl)) pgs_nil)))) (fun _ _ _ _ _ => pts_nil) (fun _ _ _ _ _ => (pv 2))) pa_nil)) pa_nil))))), ?_⟩
    refine ⟨_, rfl, l, rfl, ⟨_, hl⟩, fun D hD => ?_⟩
    have pick : ∀ (f : Nat × Nat → Nat) (i : Nat) (H1 H' : Hp) (D : Addr), H1 D = none → H' D = some (.lst ((es.take i).map fun e => nV (f e))) → ∀ x, us[i]? = some x → ∀ e, es[i]? = some e → (upd H' D (.lst ((es.take i).map (fun e => nV (f e)) ++ [nV (f e)]))) D = some (.lst ((es.take (i + 1)).map fun e => nV (f e))) := fun f i H1 H' D _ _ x _ e ee => by
      rw [upd_same, List.take_add_one, ee, List.map_append]; rfl
    have sums : ∀ f : Nat × Nat → Nat, (es.map fun e => nV (f e)) = (es.map fun e => ((f e : Nat) : Int)).map V.int := fun f => by rw [List.map_map]; rfl
    have sumN : ∀ f : Nat × Nat → Nat, (es.map fun e => ((f e : Nat) : Int)).sum = (((es.map f).sum : Nat) : Int) := fun f => by
      clear pick sums hus l12 k lus
      induction es with
      | nil => rfl
      | cons x es ih => rw [List.map_cons, List.map_cons, List.sum_cons, List.sum_cons, ih]; omega
    refine lc_list (K := K) (a := l) (xs := us) (fun i H' => Same H H' ∧ H' D = some (.lst ((es.take i).map fun e => nV e.1))) ⟨Same.new hD, upd_same⟩ (fun i H' _ p => Same.seq p.1 hl) (fun i x H' hx ⟨s1, h1⟩ => ?_) (fun H2 ⟨s1, h1⟩ => ?_)
    · obtain ⟨e, t, ee, rfl, ht⟩ := hus.get hx
      have hi := (List.getElem?_eq_some_iff.mp ee).1
      refine ⟨t, [nV e.1, nV e.2], rfl, Same.tup s1 ht, rfl, _, _, rfl, _, _, rfl, rfl, rfl, yes_if ⟨_, rfl, _, h1, ?_, fun c o ec => ?_, pick (·.1) i H H' D hD h1 _ hx e ee⟩⟩
      · rw [List.length_map, List.length_take]; exact Nat.lt_of_le_of_lt (show min i es.length ≤ 12 by omega) (by decide)
      · rw [upd_ne (ne_of_none ec hD)]; exact s1 _ _ ec
    rw [lus, List.take_length, sums] at h1
    refine ⟨D, _, rfl, SqL.of h1, ?_⟩
    rw [sumN]
    refine ⟨_, rfl, l, rfl, ⟨_, Same.seq s1 hl⟩, fun D2 hD2 => ?_⟩
    refine lc_list (K := K) (a := l) (xs := us) (fun i H' => Same H2 H' ∧ H' D2 = some (.lst ((es.take i).map fun e => nV e.2))) ⟨Same.new hD2, upd_same⟩ (fun i H' _ p => Same.seq (s1.trans p.1) hl) (fun i x H' hx ⟨s2, h2⟩ => ?_) (fun H3 ⟨s2, h2⟩ => ?_)
    · obtain ⟨e, t, ee, rfl, ht⟩ := hus.get hx
      have hi := (List.getElem?_eq_some_iff.mp ee).1
      refine ⟨t, [nV e.1, nV e.2], rfl, Same.tup (s1.trans s2) ht, rfl, _, _, rfl, _, _, rfl, rfl, rfl, yes_if ⟨_, rfl, _, h2, ?_, fun c o ec => ?_, pick (·.2) i H2 H' D2 hD2 h2 _ hx e ee⟩⟩
      · rw [List.length_map, List.length_take]; exact Nat.lt_of_le_of_lt (show min i es.length ≤ 12 by omega) (by decide)
      · rw [upd_ne (ne_of_none ec hD2)]; exact s2 _ _ ec
    rw [lus, List.take_length, sums] at h2
    refine ⟨D2, _, rfl, SqL.of h2, ?_⟩
    rw [sumN]
    refine ⟨by show 2 ≤ sizeLine; decide, fun p hp => ?_⟩
    exact k p _ (SqT.of upd_same) ((s1.trans s2).trans (Same.new hp))
theorem sc_turned_ends : FnScope ["ends", "left", "right"] ["ends"] (defScope s_turned_ends) := ⟨rfl, rfl, rfl, by decide +kernel, rfl, by decide +kernel, by decide +kernel⟩
theorem ok_turned_ends (d : Dfn K mg "turned_ends" s_turned_ends ["ends"]) (T : Bi mg) : Cal P w K mg base "turned_ends" 1 ["ends"] (spJoin K fun es => es.head?.map fun e => (e.2, e.1)) (Pla K ["ends"]) := by
  refine d.ok sc_turned_ends (fun vs H Q E h => ?_) (fun f cdv A outer s H vs Q E hr h => ?_)
  · obtain ⟨l, us, es, r, rfl, _⟩ := h; rfl
  · obtain ⟨l, us, es, r, rfl, hl, hus, l12, hr', k⟩ := h
    have nd := sc_turned_ends.nd
    obtain ⟨e, he, rfl⟩ := Option.map_eq_some_iff.mp hr'
    obtain ⟨t, et, ht⟩ := hus.2 0 e (by rw [← he, List.head?_eq_getElem?])
    refine ⟨_, (pss_cons (ps_asg (pe_ix (ixL K) (pv 0) pe_int (fun _ _ => rfl)) (pg_tup rfl (pgs_cons (pg_name (i := 1) nd rfl (by first | exact Or.inl rfl | exact Or.inr rfl)) (pgs_cons (pg_name (i := 2) nd rfl (by first | exact Or.inl rfl | exact Or.inr rfl)) pgs_nil))))
      (pss_one (ps_ret (pe_tup (pa_cons (pv 2) (pa_cons (pv 1) pa_nil)))))), ?_⟩
    refine ⟨_, rfl, l, us, _, _, rfl, rfl, hl, atI_nat (j := 0) et, ?_⟩
    refine ⟨t, _, rfl, ht, rfl, _, _, rfl, _, _, rfl, rfl, ?_⟩
    refine ⟨_, rfl, _, rfl, by show 2 ≤ sizeLine; decide, fun p hp => ?_⟩
    exact k p _ (SqT.of upd_same) (Same.new hp)
theorem sc_ring_ends : FnScope ["ends", "left", "right"] ["ends"] (defScope s_ring_ends) := ⟨rfl, rfl, rfl, by decide +kernel, rfl, by decide +kernel, by decide +kernel⟩
theorem ok_ring_ends (d : Dfn K mg "ring_ends" s_ring_ends ["ends"]) (T : Bi mg) (r_Unshaped : Rais P w K mg base "Unshaped" Cu) : CalX P w K mg base "ring_ends" 4 ["ends"] (spJoinX K Cu fun es => es.head?.bind rngE) (Pla K ["ends"]) := by
  obtain ⟨f, fd, F, m, b⟩ := d.ex
  have FD : FunD K "ring_ends" "ring_ends" s_ring_ends .none f fd := ⟨F.ex⟩
  refine ⟨f, fd, FD.okX sc_ring_ends (fun vs H Q E h => ?_) (fun cdv A outer s H vs Q E hr h => ?_), m, F.kp, b⟩
  · obtain ⟨l, us, es, rfl, _⟩ := h; rfl
  · obtain ⟨l, us, es, rfl, hl, hus, l1, l12, k1, k2⟩ := h
    have nd := sc_ring_ends.nd
    obtain ⟨e, he⟩ : ∃ e, es.head? = some e := by cases es with | nil => simp at l1 | cons e _ => exact ⟨e, rfl⟩
    obtain ⟨t, et, ht⟩ := hus.2 0 e (by rw [← he, List.head?_eq_getElem?])
    refine ⟨_, (pss_cons (ps_asg (pe_ix (ixL K) (pv 0) pe_int (fun _ _ => rfl)) (pg_tup rfl (pgs_cons (pg_name (i := 1) nd rfl (by first | exact Or.inl rfl | exact Or.inr rfl)) (pgs_cons (pg_name (i := 2) nd rfl (by first | exact Or.inl rfl | exact Or.inr rfl)) pgs_nil))))
      (pss_cons (ps_if (PW.pt (pw_or (pt_cmpR op_eq (pv 1) pe_int (nomark _)) (pw_or1 (pt_cmpR op_eq (pv 2) pe_int (nomark _))))) (pss_one (ps_rais r_Unshaped (hr.mono (by omega)) (by rfl))) pss_nil)
      (pss_one (ps_ret (pe_tup (pa_cons (pe_op op_sub (pv 1) pe_int) (pa_cons (pe_op op_sub (pv 2) pe_int) pa_nil))))))), ?_⟩
    refine ⟨_, rfl, l, us, _, _, rfl, rfl, hl, atI_nat (j := 0) et, ?_⟩
    refine ⟨t, _, rfl, ht, rfl, _, _, rfl, _, _, rfl, rfl, ?_⟩
    refine ⟨_, rfl, rfl, _, rfl, ?_⟩
    by_cases c1 : nV e.1 = V.int 0
    · rw [decide_eq_true c1]
      refine iteT (k2 ?_)
      show es.head?.bind rngE = none
      rw [he]; show rngE e = none
      unfold rngE
      rw [if_pos (.inl (by have := V.int.inj c1; omega))]
    rw [decide_eq_false c1]
    refine iteF ⟨_, rfl, rfl, _, rfl, ?_⟩
    by_cases c2 : nV e.2 = V.int 0
    · rw [decide_eq_true c2]
      refine iteT (k2 ?_)
      show es.head?.bind rngE = none
      rw [he]; show rngE e = none
      unfold rngE
      rw [if_pos (.inr (by have := V.int.inj c2; omega))]
    rw [decide_eq_false c2]
    have d1 : e.1 ≠ 0 := fun z => c1 (by rw [z]; rfl)
    have d2 : e.2 ≠ 0 := fun z => c2 (by rw [z]; rfl)
    have hre : es.head?.bind rngE = some (e.1 - 1, e.2 - 1) := by
      rw [he]; show rngE e = _
      unfold rngE
      rw [if_neg (by omega)]
    have k := k1 _ hre
    refine iteF ?_
    refine ⟨_, rfl, _, _, rfl, rfl, _, rfl, _, _, rfl, rfl, by show 2 ≤ sizeLine; decide, fun p hp => ?_⟩
    refine k p _ (SqT.of ?_) (Same.new hp)
    rw [upd_same]
    show some (HO.tup [V.int ((e.1 : Nat) - 1 : Int), V.int ((e.2 : Nat) - 1 : Int)]) = some (.tup [V.int ((e.1 - 1 : Nat) : Int), V.int ((e.2 - 1 : Nat) : Int)])
    rw [show ((e.1 : Nat) - 1 : Int) = ((e.1 - 1 : Nat) : Int) by omega, show ((e.2 : Nat) - 1 : Int) = ((e.2 - 1 : Nat) : Int) by omega]
end
end L2.Lw

set_option Elab.async false
set_option linter.all false
set_option maxRecDepth 100000
namespace L2.Lw
open PySem PySem.Spec PyProof.Rows
def kvJ (g1 g2 g3 g4 : Addr) : List (Key × V) := [(.inr "then", .ref g1), (.inr "beside", .ref g2), (.inr "turned", .ref g3), (.inr "ring", .ref g4)]
structure Ge (P : Program) (w : World) (K : PySem.W.Frag) (mg : Str → Option Value) (uE : Value) (aJ g1 g2 g3 g4 : Addr) : Prop where
  g_MOST_ENDS : mg "MOST_ENDS" = some uE
  r_MOST_ENDS : RelV (.int 12) uE
  g_JOINED_ENDS : mg "JOINED_ENDS" = some (.ref aJ)
  m_JOINED_ENDS : MDk P w K aJ (kvJ g1 g2 g3 g4)
  m1 : mg "then_ends" = some (.ref g1)
  m2 : mg "beside_ends" = some (.ref g2)
  m3 : mg "turned_ends" = some (.ref g3)
  m4 : mg "ring_ends" = some (.ref g4)
section
variable {g1 g2 g3 g4 : Addr}
theorem kvJ1 : valV (kvJ g1 g2 g3 g4) (.inr "then") = some (.ref g1) := by rfl
theorem kvJ2 : valV (kvJ g1 g2 g3 g4) (.inr "beside") = some (.ref g2) := by rfl
theorem kvJ3 : valV (kvJ g1 g2 g3 g4) (.inr "turned") = some (.ref g3) := by rfl
theorem kvJ4 : valV (kvJ g1 g2 g3 g4) (.inr "ring") = some (.ref g4) := by rfl
end
theorem few_le {e : Option (Nat × Nat)} {r : Nat × Nat} (h : few e = some r) : e = some r ∧ r.1 ≤ 12 ∧ r.2 ≤ 12 := by
  unfold few at h
  obtain ⟨x, hx, h⟩ := Option.bind_eq_some_iff.mp h
  by_cases c : x.1 ≤ 12 ∧ x.2 ≤ 12
  · rw [if_pos c] at h; cases h; exact ⟨hx, c⟩
  · rw [if_neg c] at h; cases h
theorem Bx.ends_le : ∀ {b : Bx}, b.ok → b.ends.1 ≤ 12 ∧ b.ends.2 ≤ 12
  | .wire, _ => by decide
  | .lag, _ => by decide
  | .weigh _, _ => by show 1 ≤ 12 ∧ 1 ≤ 12; omega
  | .copy n, h => by have h : n ≤ 4 := h; show 1 ≤ 12 ∧ n ≤ 12; omega
  | .sum n, h => by have h : n ≤ 4 := h; show n ≤ 12 ∧ 1 ≤ 12; omega
  | .shuf l, h => ⟨h.2.1, h.2.1⟩
  | .mix l, h => by
    obtain ⟨h1, h2, h3, h4⟩ := h
    refine ⟨?_, h2⟩
    cases l with
    | nil => simp at h1
    | cons x l => exact (h3 x (by simp)).2.1
theorem Wt.ends_le : ∀ {w : Wt} {r : Nat × Nat}, w.ends = some r → (∀ b ∈ w.boxes, b.ok) → r.1 ≤ 12 ∧ r.2 ≤ 12
  | .box b, r, h, ok => by rw [Wt.ends] at h; cases h; exact Bx.ends_le (ok b (by rw [Wt.boxes]; simp))
  | .trn w, r, h, ok => by
    rw [Wt.ends] at h
    obtain ⟨e, he, rfl⟩ := Option.map_eq_some_iff.mp h
    have := Wt.ends_le he (fun b hb => ok b (by rw [Wt.boxes]; exact hb))
    exact ⟨this.2, this.1⟩
  | .rng w, r, h, ok => by
    rw [Wt.ends] at h
    obtain ⟨e, he, h⟩ := Option.bind_eq_some_iff.mp h
    have := Wt.ends_le he (fun b hb => ok b (by rw [Wt.boxes]; exact hb))
    unfold rngE at h
    split at h
    · cases h
    · cases h; show e.1 - 1 ≤ 12 ∧ e.2 - 1 ≤ 12; omega
  | .thn ws, r, h, _ => by
    rw [Wt.ends] at h
    obtain ⟨e, he, h⟩ := Option.bind_eq_some_iff.mp h
    exact (few_le h).2
  | .bes ws, r, h, _ => by
    rw [Wt.ends] at h
    obtain ⟨e, he, h⟩ := Option.bind_eq_some_iff.mp h
    exact (few_le h).2
/-- how a part joins what its parts have -/
def Wt.join : Wt → List (Nat × Nat) → Option (Nat × Nat)
  | .box _ => fun _ => none
  | .trn _ => fun es => es.head?.map fun e => (e.2, e.1)
  | .rng _ => fun es => es.head?.bind rngE
  | .thn _ => thnE
  | .bes _ => fun es => some (besE es)
theorem Wt.ends_join : ∀ {w : Wt} {r : Nat × Nat}, w.ends = some r → w.parts ≠ [] → ∃ es, endsL w.parts = some es ∧ w.join es = some r
  | .box b, _, _, h => absurd rfl h
  | .trn w, r, h, _ => by
    rw [Wt.ends] at h
    obtain ⟨e, he, rfl⟩ := Option.map_eq_some_iff.mp h
    exact ⟨[e], by show endsL [w] = _; rw [endsL, he, endsL]; rfl, rfl⟩
  | .rng w, r, h, _ => by
    rw [Wt.ends] at h
    obtain ⟨e, he, h⟩ := Option.bind_eq_some_iff.mp h
    exact ⟨[e], by show endsL [w] = _; rw [endsL, he, endsL]; rfl, h⟩
  | .thn ws, r, h, _ => by
    rw [Wt.ends] at h
    obtain ⟨e, he, h⟩ := Option.bind_eq_some_iff.mp h
    exact ⟨e, he, (few_le h).1⟩
  | .bes ws, r, h, _ => by
    rw [Wt.ends] at h
    obtain ⟨e, he, h⟩ := Option.bind_eq_some_iff.mp h
    exact ⟨e, he, (few_le h).1⟩
theorem endsL_at : ∀ {ws : List Wt} {es : List (Nat × Nat)}, endsL ws = some es → es.length = ws.length ∧ ∀ (i : Nat) (w : Wt), ws[i]? = some w → ∃ e, es[i]? = some e ∧ w.ends = some e
  | [], es, h => by rw [endsL] at h; cases h; exact ⟨rfl, fun i w e => by simp at e⟩
  | x :: ws, es, h => by
    rw [endsL] at h
    obtain ⟨e, he, h⟩ := Option.bind_eq_some_iff.mp h
    obtain ⟨fs, hf, rfl⟩ := Option.map_eq_some_iff.mp h
    obtain ⟨h1, h2⟩ := endsL_at hf
    refine ⟨by simp [h1], fun i w ew => ?_⟩
    rcases i with _ | i
    · simp at ew; subst ew; exact ⟨e, rfl, he⟩
    · exact h2 i w (by simpa using ew)
theorem boxesL_mem : ∀ {ws : List Wt} {w : Wt} {b : Bx}, w ∈ ws → b ∈ w.boxes → b ∈ boxesL ws
  | x :: ws, w, b, h, hb => by
    rw [boxesL_cons]
    rcases List.mem_cons.mp h with rfl | h
    · exact List.mem_append_left _ hb
    · exact List.mem_append_right _ (boxesL_mem h hb)
theorem endsL_none : ∀ {ws : List Wt}, endsL ws = none → ∃ w ∈ ws, w.ends = none
  | [], h => by rw [endsL] at h; cases h
  | x :: ws, h => by
    rw [endsL] at h
    cases he : x.ends with
    | none => exact ⟨x, by simp, he⟩
    | some e =>
      rw [he] at h
      obtain ⟨w, hw, q⟩ := endsL_none (ws := ws) (Option.map_eq_none_iff.mp h)
      exact ⟨w, List.mem_cons_of_mem _ hw, q⟩
theorem endsL_some : ∀ {ws : List Wt}, (∀ w ∈ ws, w.ends ≠ none) → ∃ es, endsL ws = some es := fun {ws} h => by
  cases q : endsL ws with
  | some es => exact ⟨es, rfl⟩
  | none => obtain ⟨w, hw, e⟩ := endsL_none q; exact absurd e (h w hw)
theorem few_some {r : Nat × Nat} (h : r.1 ≤ 12 ∧ r.2 ≤ 12) : few (some r) = some r := by
  unfold few; show (if r.1 ≤ 12 ∧ r.2 ≤ 12 then some r else none) = _; rw [if_pos h]
theorem few_big {r : Nat × Nat} (h : ¬ (r.1 ≤ 12 ∧ r.2 ≤ 12)) : few (some r) = none := by
  unfold few; show (if r.1 ≤ 12 ∧ r.2 ≤ 12 then some r else none) = _; rw [if_neg h]
theorem Wt.ends_of_join : ∀ {w : Wt} {es : List (Nat × Nat)} {r : Nat × Nat}, w.parts ≠ [] → endsL w.parts = some es → w.join es = some r → r.1 ≤ 12 ∧ r.2 ≤ 12 → w.ends = some r
  | .box b, _, _, h, _, _, _ => absurd rfl h
  | .trn w, es, r, _, h, hj, _ => by
    rw [show (Wt.trn w).parts = [w] from rfl, endsL] at h
    obtain ⟨e, he, h⟩ := Option.bind_eq_some_iff.mp h
    rw [endsL] at h; cases h
    rw [Wt.ends, he]; exact hj
  | .rng w, es, r, _, h, hj, _ => by
    rw [show (Wt.rng w).parts = [w] from rfl, endsL] at h
    obtain ⟨e, he, h⟩ := Option.bind_eq_some_iff.mp h
    rw [endsL] at h; cases h
    rw [Wt.ends, he]; exact hj
  | .thn ws, es, r, _, h, hj, b => by
    have h : endsL ws = some es := h
    have hj : thnE es = some r := hj
    rw [Wt.ends, h]; show few (thnE es) = _; rw [hj, few_some b]
  | .bes ws, es, r, _, h, hj, b => by
    have h : endsL ws = some es := h
    have hj : some (besE es) = some r := hj
    rw [Wt.ends, h]; show few (some (besE es)) = _; rw [hj, few_some b]
theorem Wt.none_of_join : ∀ {w : Wt} {es : List (Nat × Nat)} {r : Nat × Nat}, (∀ b ∈ w.boxes, b.ok) → w.parts ≠ [] → endsL w.parts = some es → w.join es = some r → ¬ (r.1 ≤ 12 ∧ r.2 ≤ 12) → w.ends = none := fun {w es r} ok h he hj b => by
  cases hz : w.ends with
  | none => rfl
  | some r2 =>
    obtain ⟨es2, h1, h2⟩ := Wt.ends_join hz h
    rw [he] at h1; cases h1
    rw [hj] at h2; cases h2
    exact absurd (Wt.ends_le hz ok) b
def spEndsOf (K : PySem.W.Frag) (Cu : Addr) (n : Nat) : Sp := fun vs H Q E => ∃ (wt : Wt) (v : V), vs = [v] ∧ Wr K H wt v ∧ wt.okj ∧ (∀ b ∈ wt.boxes, b.ok) ∧ wt.deep ≤ n ∧ (∀ r, wt.ends = some r → ∀ (t : Addr) H', SqT K H' t [nV r.1, nV r.2] → Same H H' → Q (.ref t) H') ∧ (wt.ends = none → Comes E H "Unshaped" Cu)
theorem joinX {P : Program} {w : World} {K : PySem.W.Frag} {mg : Str → Option Value} {base : Heap} {x : Str} {k : Nat} {ps : List Str} {j : List (Nat × Nat) → Option (Nat × Nat)} {B : FuncData → Prop} {Cu : Addr} (hj : ∀ es, 1 ≤ es.length → ∃ r, j es = some r) (c : Cal P w K mg base x k ps (spJoin K j) B) : CalX P w K mg base x k ps (spJoinX K Cu j) B := by
  obtain ⟨f, fd, F, r⟩ := Cal.x c
  refine ⟨f, fd, F.imp fun vs H Q E ⟨l, us, es, e, hl, hus, l1, l12, k1, _⟩ => ?_, r⟩
  obtain ⟨z, hz⟩ := hj es l1
  exact ⟨l, us, es, z, e, hl, hus, l12, hz, fun t H' ht s => k1 z hz t H' ht s⟩
section
variable {P : Program} {w : World} {K : PySem.W.Frag} {mg : Str → Option Value} {base : Heap} {uE : Value} {aJ g1 g2 g3 g4 Cu : Addr}
theorem sc_ends_of : FnScope ["part", "inner", "joined", "left", "right", "one"] ["part"] (defScope s_ends_of) := ⟨rfl, rfl, rfl, by decide +kernel, rfl, by decide +kernel, by decide +kernel⟩
theorem ok_ends_of (d : Dfn K mg "ends_of" s_ends_of ["part"]) (T : Bi mg) (G : Ge P w K mg uE aJ g1 g2 g3 g4) (r_Unshaped : Rais P w K mg base "Unshaped" Cu) (c_parts_of : Cal P w K mg base "parts_of" 2 ["part"] (spParts K) (Pla K ["part"])) (c_box_ends : Cal P w K mg base "box_ends" 1 ["box"] (spBxE K) (Pla K ["box"])) (c_then_ends : CalX P w K mg base "then_ends" 4 ["ends"] (spJoinX K Cu thnE) (Pla K ["ends"])) (c_beside_ends : Cal P w K mg base "beside_ends" 1 ["ends"] (spJoin K fun es => some (besE es)) (Pla K ["ends"])) (c_turned_ends : Cal P w K mg base "turned_ends" 1 ["ends"] (spJoin K fun es => es.head?.map fun e => (e.2, e.1)) (Pla K ["ends"])) (c_ring_ends : CalX P w K mg base "ring_ends" 4 ["ends"] (spJoinX K Cu fun es => es.head?.bind rngE) (Pla K ["ends"])) : ∀ n : Nat, CalX P w K mg base "ends_of" (n+6) ["part"] (spEndsOf K Cu n) (Pla K ["part"])
  | 0 => by
    obtain ⟨f, fd, F, m, b⟩ := d.ex
    have FD : FunD K "ends_of" "ends_of" s_ends_of .none f fd := ⟨F.ex⟩
    refine ⟨f, fd, FD.okX (k := 5) sc_ends_of (fun vs H Q E h => ?_) (fun cdv A outer s H vs Q E hr h => ?_), m, F.kp, b⟩
    · obtain ⟨wt, v, rfl, _⟩ := h; rfl
    · obtain ⟨wt, v, rfl, _, _, _, hd, _⟩ := h
      have := Wt.deep1 wt; omega
  | n + 1 => by
    have c_ends_of := ok_ends_of d T G r_Unshaped c_parts_of c_box_ends c_then_ends c_beside_ends c_turned_ends c_ring_ends n
    obtain ⟨f, fd, F, m, b⟩ := d.ex
    have FD : FunD K "ends_of" "ends_of" s_ends_of .none f fd := ⟨F.ex⟩
    refine ⟨f, fd, FD.okX (k := n + 6) sc_ends_of (fun vs H Q E h => ?_) (fun cdv A outer s H vs Q E hr h => ?_), m, F.kp, b⟩
    · obtain ⟨wt, v, rfl, _⟩ := h; rfl
    · obtain ⟨wt, v, rfl, hw, oj, ok, hd, k, kE⟩ := h
      have nd := sc_ends_of.nd
      refine ⟨_, (pss_cons (ps_set (i := 1) nd rfl (by first | exact Or.inl rfl | exact Or.inr rfl) (pcall c_parts_of (hr.mono (by omega)) (pa_cons (pv 0) pa_nil)))
      (pss_cons (ps_if (pt_not (pt_truth (pv 1) (by intro _; rfl))) (pss_one (ps_ret (pcall c_box_ends (hr.mono (by omega)) (pa_cons (pv 0) pa_nil)))) pss_nil)
      (pss_cons (ps_set (i := 2) nd rfl (by first | exact Or.inl rfl | exact Or.inr rfl) (pe_mget (by rfl) G.g_JOINED_ENDS G.m_JOINED_ENDS (pe_ix (ixT K) (pv 0) pe_int (fun _ _ => rfl)) (fun _ _ => rfl)))
      (pss_cons (ps_asg (pe_callVX (k := 4) (hr.mono (by omega)) xpass (i := 2) (by rfl) (by first | exact Or.inl rfl | exact Or.inr (Or.inl rfl)) (pa_cons (pe_lcX xout (own := [("one", 5)]) (g := _) (by rfl) nd (piT K (pv 1)) (blkOk_by (own := [("one", 5)]) (N := ["part", "inner", "joined", "left", "right", "one"]) (sc := defScope s_ends_of) (by decide +kernel)) (fun _ _ _ _ _ => (pg_name (i := 5) nd rfl (by first | exact Or.inl rfl | exact Or.inr rfl))) (fun _ _ _ _ _ => pts_nil) (fun _ _ _ _ _ _ xp => (pcallX c_ends_of (hr.mono (by omega)) xp (pa_cons (pv 5) pa_nil)))) pa_nil)) (pg_tup rfl (pgs_cons (pg_name (i := 3) nd rfl (by first | exact Or.inl rfl | exact Or.inr rfl)) (pgs_cons (pg_name (i := 4) nd rfl (by first | exact Or.inl rfl | exact Or.inr rfl)) pgs_nil))))
      (pss_cons (ps_if (PW.pt (pw_or (pt_cmpR op_gt (pv 3) (pe_glob (by rfl) G.g_MOST_ENDS G.r_MOST_ENDS) (nomark _)) (pw_or1 (pt_cmpR op_gt (pv 4) (pe_glob (by rfl) G.g_MOST_ENDS G.r_MOST_ENDS) (nomark _))))) (pss_one (ps_rais r_Unshaped (hr.mono (by omega)) (by rfl))) pss_nil)
      (pss_one (ps_ret (pe_tup (pa_cons (pv 3) (pa_cons (pv 4) pa_nil)))))))))), ?_⟩
      refine ⟨_, rfl, wt, v, rfl, hw, Wt.parts_len oj, Wt.parts_one oj, fun tt ps H1 htt hps s1 => ?_⟩
      have lps := hps.len
      have hw1 := hw.kt (Same.kt s1)
      by_cases hb : wt.parts = []
      · obtain ⟨b, eb⟩ := Wt.parts_nil oj hb
        have : ps = [] := List.eq_nil_of_length_eq_zero (by rw [lps, hb]; rfl)
        subst this
        subst eb
        obtain ⟨a, rfl, ha⟩ := hw1
        refine ⟨_, rfl, false, .inr (.inl ⟨[], htt, rfl⟩), iteT ?_⟩
        exact ⟨_, rfl, a, b, rfl, ha, ok b (by rw [Wt.boxes]; simp), fun t H2 ht s2 => k b.ends (by rw [Wt.ends]) t H2 ht (s1.trans s2)⟩
      · have pn : ps ≠ [] := fun z => hb (List.eq_nil_of_length_eq_zero (by rw [← lps, z]; rfl))
        have p12 := Wt.parts_len oj
        have pp : 1 ≤ wt.parts.length := List.length_pos_iff.mpr hb
        obtain ⟨a, rest, rfl, hdw⟩ := hw1.hd
        obtain ⟨g, hg, hfn⟩ : ∃ g, valV (kvJ g1 g2 g3 g4) (.inr wt.word) = some (.ref g) ∧ FnVX P w K mg base g 4 (spJoinX K Cu wt.join) := by
          cases wt with
          | box b => exact absurd rfl hb
          | trn _ => exact ⟨g3, kvJ3, (joinX (fun es h => by cases es with | nil => simp at h | cons e _ => exact ⟨_, rfl⟩) c_turned_ends).fnv G.m3 (by omega)⟩
          | rng _ => exact ⟨g4, kvJ4, c_ring_ends.fnv G.m4 (Nat.le_refl _)⟩
          | thn _ => exact ⟨g1, kvJ1, c_then_ends.fnv G.m1 (Nat.le_refl _)⟩
          | bes _ => exact ⟨g2, kvJ2, (joinX (fun es _ => ⟨_, rfl⟩) c_beside_ends).fnv G.m2 (by omega)⟩
        refine ⟨_, rfl, true, .inr (.inl ⟨ps, htt, by cases ps with | nil => exact absurd rfl pn | cons _ _ => rfl⟩), iteF ?_⟩
        refine ⟨_, rfl, a, _, _, V.str wt.word, rfl, rfl, hdw, atI_zero, .inr wt.word, _, rfl, hg, ?_⟩
        refine ⟨g, _, rfl, hfn, _, rfl, tt, rfl, ⟨_, htt⟩, fun D hD => ?_⟩
        refine lcR_tup (K := K) (a := tt) (xs := ps) (j := 5) (fun i y H' => ∃ (w : Wt) (e : Nat × Nat) (t : Addr), wt.parts[i]? = some w ∧ w.ends = some e ∧ y = .ref t ∧ SqT K H' t [nV e.1, nV e.2]) (fun i y H' H'' kt ⟨w, e, t, h0, h1, h2, h3⟩ => ⟨w, e, t, h0, h1, h2, kt _ _ h3⟩) htt hD (by omega) (fun _ => rfl) (fun i x H' Q' hx s2 q => ?_) (fun H2 ⟨s2, ys, hy, ly, ry⟩ => ?_)
        · have hi : i < wt.parts.length := by have := (List.getElem?_eq_some_iff.mp hx).1; omega
          obtain ⟨x', ex', hx'⟩ := hps.at (List.getElem?_eq_getElem hi)
          rw [hx] at ex'
          cases ex'
          have hmem := List.getElem_mem hi
          have dp := Wt.parts_deep hmem
          refine ⟨_, rfl, wt.parts[i], x, rfl, hx'.kt (Same.kt s2), Wt.parts_okj oj hmem, fun b hb2 => ok b (by rw [← Wt.parts_boxes hb]; exact boxesL_mem hmem hb2), by omega, fun e hew t H4 ht s4 => q _ H4 s4 ⟨_, e, t, List.getElem?_eq_getElem hi, hew, rfl, ht⟩, fun z => (kE ?_).same (s1.trans s2)⟩
          cases hz : wt.ends with
          | none => rfl
          | some r =>
            obtain ⟨es, hes, _⟩ := Wt.ends_join hz hb
            obtain ⟨e, _, q2⟩ := (endsL_at hes).2 i _ (List.getElem?_eq_getElem hi)
            rw [z] at q2; cases q2
        · have all : ∀ u ∈ wt.parts, u.ends ≠ none := fun u hu z => by
            obtain ⟨i, hi, e⟩ := List.getElem_of_mem hu
            obtain ⟨w2, e2, t, h0, h1, _⟩ := ry i (ys[i]'(by omega)) (List.getElem?_eq_getElem (by omega))
            rw [List.getElem?_eq_getElem hi, e] at h0
            cases h0
            rw [z] at h1; cases h1
          obtain ⟨es, hes⟩ := endsL_some all
          obtain ⟨les, hat⟩ := endsL_at hes
          have pr : PrsAt K H2 ys es := ⟨by omega, fun i e ee => by
            have hi := (List.getElem?_eq_some_iff.mp ee).1
            obtain ⟨w2, e2, t, h0, h1, h2, h3⟩ := ry i _ (List.getElem?_eq_getElem (show i < ys.length by omega))
            obtain ⟨e3, q1, q2⟩ := hat i w2 h0
            rw [ee] at q1; cases q1
            rw [h1] at q2; cases q2
            exact ⟨t, by rw [List.getElem?_eq_getElem (show i < ys.length by omega), h2], h3⟩⟩
          have s12 := s1.trans s2
          refine ⟨D, ys, es, rfl, SqL.of hy, pr, by omega, by omega, fun r hj t H3 ht s3 => ?_, fun z => (kE ?_).same s12⟩
          · refine ⟨t, _, rfl, ht, rfl, _, _, rfl, _, _, rfl, rfl, ?_⟩
            refine ⟨_, rfl, _, _, rfl, rfl, _, rfl, ?_⟩
            by_cases big : r.1 ≤ 12 ∧ r.2 ≤ 12
            · have he : wt.ends = some r := Wt.ends_of_join hb hes hj big
              refine (if_neg (by simp; omega)).mpr ⟨_, rfl, _, _, rfl, rfl, _, rfl, ?_⟩
              refine (if_neg (by simp; omega)).mpr ?_
              refine ⟨_, rfl, _, rfl, by show 2 ≤ sizeLine; decide, fun p hp => ?_⟩
              exact k r he p _ (SqT.of upd_same) ((s12.trans s3).trans (Same.new hp))
            · have he : wt.ends = none := Wt.none_of_join ok hb hes hj big
              have cm := (kE he).same (s12.trans s3)
              by_cases c1 : r.1 ≤ 12
              · refine (if_neg (by simp; omega)).mpr ⟨_, rfl, _, _, rfl, rfl, _, rfl, ?_⟩
                exact (if_pos (by simp; omega)).mpr cm
              · exact (if_pos (by simp; omega)).mpr cm
          · cases hz : wt.ends with
            | none => rfl
            | some r =>
              obtain ⟨es2, h1, h2⟩ := Wt.ends_join hz hb
              rw [hes] at h1; cases h1
              rw [z] at h2; cases h2
end
end L2.Lw

set_option Elab.async false
set_option linter.all false
set_option maxRecDepth 100000
namespace L2.Lw
open PySem PySem.Spec PyProof.Rows
def spPlain (K : PySem.W.Frag) : Sp := fun vs H Q _ => ∃ (w : Wt) (v : V), vs = [v] ∧ Wr K H w v ∧ w.Ok ∧ ∀ (l : Addr) (us : List V) H', H l = none → H' l = some (.lst us) → BxsAt K H' us w.boxes → Same H H' → Q (.ref l) H'
def spShape (K : PySem.W.Frag) (Cu : Addr) : Sp := fun vs H Q E => ∃ (w : Wt) (v : V), vs = [v] ∧ Wr K H w v ∧ w.Ok ∧ (∀ r, w.ends = some r → ∀ (t : Addr) H', SqT K H' t [nV r.1, nV r.2] → Same H H' → Q (.ref t) H') ∧ (w.ends = none → Comes E H "Unshaped" Cu)
def spMany (K : PySem.W.Frag) (Cu : Addr) : Sp := fun vs H Q E => ∃ (w : Wt) (v : V), vs = [v] ∧ Wr K H w v ∧ w.Ok ∧ (∀ r, w.ends = some r → ∀ H', Same H H' → Q (nV w.boxes.length) H') ∧ (w.ends = none → Comes E H "Unshaped" Cu)
def spLags (K : PySem.W.Frag) (Cu : Addr) : Sp := fun vs H Q E => ∃ (w : Wt) (v : V), vs = [v] ∧ Wr K H w v ∧ w.Ok ∧ (∀ r, w.ends = some r → ∀ H', Same H H' → Q (nV (w.boxes.count .lag)) H') ∧ (w.ends = none → Comes E H "Unshaped" Cu)
section
variable {P : Program} {w : World} {K : PySem.W.Frag} {mg : Str → Option Value} {base : Heap} {uW uC uT uD uB uL uE : Value} {aL aB aJ g1 g2 g3 g4 Cu : Addr}
theorem sc_plain_boxes : FnScope ["wiring", "found", "box"] ["wiring"] (defScope s_plain_boxes) := ⟨rfl, rfl, rfl, by decide +kernel, rfl, by decide +kernel, by decide +kernel⟩
theorem ok_plain_boxes (d : Dfn K mg "plain_boxes" s_plain_boxes ["wiring"]) (T : Bi mg) (c_boxes_of : Cal P w K mg base "boxes_of" 6 ["wiring"] (spBoxes K) (Pla K ["wiring"])) : Cal P w K mg base "plain_boxes" 7 ["wiring"] (spPlain K) (Pla K ["wiring"]) := by
  refine d.ok sc_plain_boxes (fun vs H Q E h => ?_) (fun f cdv A outer s H vs Q E hr h => ?_)
  · obtain ⟨w0, v, rfl, _⟩ := h; rfl
  · obtain ⟨w0, v, rfl, hw, ok, k⟩ := h
    have nd := sc_plain_boxes.nd
    refine ⟨_, (pss_cons (ps_set (i := 1) nd rfl (by first | exact Or.inl rfl | exact Or.inr rfl) (pcall c_boxes_of (hr.mono (by omega)) (pa_cons (pv 0) pa_nil)))
      (pss_cons (ps_if (pt_val (pe_callB (anyK K) (by rfl) T.any (by decide +kernel) (pa_cons (pe_lc (own := [("box", 2)]) (g := _) (by rfl) nd (piL K (pv 1)) (blkOk_by (own := [("box", 2)]) (N := ["wiring", "found", "box"]) (sc := defScope s_plain_boxes) (by decide +kernel)) (fun _ _ _ _ _ => (pg_name (i := 2) nd rfl (by first | exact Or.inl rfl | exact Or.inr rfl))) (fun _ _ _ _ _ => pts_nil) (fun _ _ _ _ _ => (pe_cmpR op_eq (pe_ix (ixT K) (pv 2) pe_int (fun _ _ => rfl)) pe_str (nomark _)))) pa_nil))) (pss_one ps_never) pss_nil)
      (pss_one (ps_ret (pv 1))))), ?_⟩
    refine ⟨_, rfl, w0, v, rfl, hw, ok, fun l us H1 hl0 hl hus s1 => ?_⟩
    refine ⟨_, rfl, l, rfl, ⟨_, SqL.of hl⟩, fun D hD => ?_⟩
    have m60 := ok.m
    have lus := hus.1
    refine lcN_list (K := K) (a := l) (xs := us) (j := 2) (fun _ => V.bl false) (SqL.of hl) hD (by omega) (fun i x H2 Q2 hx s2 q => ?_) (fun H2 s2 e2 => ?_)
    · have hi := (List.getElem?_eq_some_iff.mp hx).1
      obtain ⟨a, ea, ha⟩ := hus.2 i _ (List.getElem?_eq_getElem (show i < w0.boxes.length by omega))
      rw [hx] at ea
      cases ea
      obtain ⟨rest, hd⟩ := ha.hd
      refine ⟨_, rfl, a, _, _, V.str w0.boxes[i].word, rfl, rfl, Same.tup s2 hd, atI_zero, rfl, ?_⟩
      rw [show decide (V.str w0.boxes[i].word = V.str "use") = false by
        refine decide_eq_false fun z => ?_
        have := bxN w0.boxes[i] [V.str "use"] (by decide +kernel)
        rw [z] at this
        exact this (by decide +kernel)]
      exact q H2 (Same.refl _)
    · refine ⟨D, (List.range us.length).map fun _ => false, rfl, SqL.of (by rw [e2, List.map_map]; rfl), ?_⟩
      rw [show ((List.range us.length).map fun _ => false).any id = false by simp]
      refine ⟨_, rfl, iteF ?_⟩
      exact ⟨_, rfl, k l us H2 hl0 (s2 _ _ hl) (hus.kt (Same.kt s2)) (s1.trans s2)⟩
theorem sc_shape : FnScope ["wiring"] ["wiring"] (defScope s_shape) := ⟨rfl, rfl, rfl, by decide +kernel, rfl, by decide +kernel, by decide +kernel⟩
theorem ok_shape (d : Dfn K mg "shape" s_shape ["wiring"]) (c_plain_boxes : Cal P w K mg base "plain_boxes" 7 ["wiring"] (spPlain K) (Pla K ["wiring"])) (c_ends_of : CalX P w K mg base "ends_of" 22 ["part"] (spEndsOf K Cu 16) (Pla K ["part"])) : CalX P w K mg base "shape" 23 ["wiring"] (spShape K Cu) (Pla K ["wiring"]) := by
  obtain ⟨f, fd, F, m, b⟩ := d.ex
  have FD : FunD K "shape" "shape" s_shape .none f fd := ⟨F.ex⟩
  refine ⟨f, fd, FD.okX sc_shape (fun vs H Q E h => ?_) (fun cdv A outer s H vs Q E hr h => ?_), m, F.kp, b⟩
  · obtain ⟨w0, v, rfl, _⟩ := h; rfl
  · obtain ⟨w0, v, rfl, hw, ok, k, kE⟩ := h
    refine ⟨_, (pss_cons (ps_expr (pcall c_plain_boxes (hr.mono (by omega)) (pa_cons (pv 0) pa_nil)))
      (pss_one (ps_ret (pcallX c_ends_of (hr.mono (by omega)) xpass (pa_cons (pv 0) pa_nil))))), ?_⟩
    refine ⟨_, rfl, w0, v, rfl, hw, ok, fun l us H1 _ _ _ s1 => ?_⟩
    exact ⟨_, rfl, w0, v, rfl, hw.kt (Same.kt s1), ok.j, ok.b, ok.d, fun r he t H2 ht s2 => k r he t H2 ht (s1.trans s2), fun z => (kE z).same s1⟩
theorem sc_boxes : FnScope ["wiring"] ["wiring"] (defScope s_boxes) := ⟨rfl, rfl, rfl, by decide +kernel, rfl, by decide +kernel, by decide +kernel⟩
theorem ok_boxes (d : Dfn K mg "boxes" s_boxes ["wiring"]) (T : Bi mg) (c_shape : CalX P w K mg base "shape" 23 ["wiring"] (spShape K Cu) (Pla K ["wiring"])) (c_boxes_of : Cal P w K mg base "boxes_of" 6 ["wiring"] (spBoxes K) (Pla K ["wiring"])) : CalX P w K mg base "boxes" 24 ["wiring"] (spMany K Cu) (Pla K ["wiring"]) := by
  obtain ⟨f, fd, F, m, b⟩ := d.ex
  have FD : FunD K "boxes" "boxes" s_boxes .none f fd := ⟨F.ex⟩
  refine ⟨f, fd, FD.okX sc_boxes (fun vs H Q E h => ?_) (fun cdv A outer s H vs Q E hr h => ?_), m, F.kp, b⟩
  · obtain ⟨w0, v, rfl, _⟩ := h; rfl
  · obtain ⟨w0, v, rfl, hw, ok, k, kE⟩ := h
    refine ⟨_, (pss_cons (ps_expr (pcallX c_shape (hr.mono (by omega)) xpass (pa_cons (pv 0) pa_nil)))
      (pss_one (ps_ret (pe_callB (lenS K) (by rfl) T.len (by decide +kernel) (pa_cons (pcall c_boxes_of (hr.mono (by omega)) (pa_cons (pv 0) pa_nil)) pa_nil))))), ?_⟩
    refine ⟨_, rfl, w0, v, rfl, hw, ok, fun r he t H1 _ s1 => ?_, kE⟩
    refine ⟨_, rfl, w0, v, rfl, hw.kt (Same.kt s1), ok, fun l us H2 _ hl hus s2 => ⟨l, us, rfl, .inl (SqL.of hl), ?_⟩⟩
    rw [hus.1]
    exact k r he H2 (s1.trans s2)
theorem sc_lags : FnScope ["wiring"] ["wiring"] (defScope s_lags) := ⟨rfl, rfl, rfl, by decide +kernel, rfl, by decide +kernel, by decide +kernel⟩
theorem ok_lags (d : Dfn K mg "lags" s_lags ["wiring"]) (T : Bi mg) (G : Gp K mg uW uC uT uD uB uL aL aB) (c_shape : CalX P w K mg base "shape" 23 ["wiring"] (spShape K Cu) (Pla K ["wiring"])) (c_boxes_of : Cal P w K mg base "boxes_of" 6 ["wiring"] (spBoxes K) (Pla K ["wiring"])) : CalX P w K mg base "lags" 24 ["wiring"] (spLags K Cu) (Pla K ["wiring"]) := by
  obtain ⟨f, fd, F, m, b⟩ := d.ex
  have FD : FunD K "lags" "lags" s_lags .none f fd := ⟨F.ex⟩
  refine ⟨f, fd, FD.okX sc_lags (fun vs H Q E h => ?_) (fun cdv A outer s H vs Q E hr h => ?_), m, F.kp, b⟩
  · obtain ⟨w0, v, rfl, _⟩ := h; rfl
  · obtain ⟨w0, v, rfl, hw, ok, k, kE⟩ := h
    refine ⟨_, (pss_cons (ps_expr (pcallX c_shape (hr.mono (by omega)) xpass (pa_cons (pv 0) pa_nil)))
      (pss_one (ps_ret (pe_bm PySem.F.plainAttrs_list PySem.F.slot_list_count PySem.F.type_list_count (mt_count hr.units) (pcall c_boxes_of (hr.mono (by omega)) (pa_cons (pv 0) pa_nil)) (pa_cons (pe_glob (by rfl) G.g_LAG G.r_LAG) pa_nil))))), ?_⟩
    refine ⟨_, rfl, w0, v, rfl, hw, ok, fun r he t H1 _ s1 => ?_, kE⟩
    refine ⟨_, rfl, w0, v, rfl, hw.kt (Same.kt s1), ok, fun l us H2 _ hl hus s2 => ⟨.inl ⟨rfl, us, SqL.of hl⟩, ?_⟩⟩
    refine ⟨l, us, .ref aL, _, Bx.lag.data, rfl, rfl, SqL.of hl, hus.dp, .tup (G.s_LAG H2) (.cons (.str _) .nil), layBxs _, Bx.lay _, by decide +kernel, ?_⟩
    rw [count_lag]
    exact k r he H2 (s1.trans s2)
end
end L2.Lw

set_option Elab.async false
set_option linter.all false
set_option maxRecDepth 100000
namespace L2.Lw
open PySem PySem.Spec PyProof.Rows
/-! ### the law's boxes -/
/-- a box, or one that is turned -/
def Small (w : Wt) : Prop := ∃ b : Bx, b.ok ∧ (w = .box b ∨ w = .trn (.box b))
def lagN (w : Wt) : Nat := w.boxes.count .lag
def spLBox (K : PySem.W.Frag) : Sp := fun vs H Q _ => ∃ (b bl : Addr) (room left : Int), vs = [.ref b, .int room, .int left] ∧ Bag H b bl ∧ 1 ≤ left ∧
  ∀ (t : Addr) (w : Wt) (lo hi : Nat) (v : V) H', SqT K H' t [v, nV lo, nV hi] → Wr K H' w v → Small w → w.ends = some (lo, hi) → 1 ≤ lo → (lo : Int) ≤ left → hi ≤ 2 → (lagN w = 0 ∨ (lagN w = 1 ∧ 0 < room)) → Bag H' b bl → But b H H' → Q (.ref t) H'
theorem Bag.kt {K : PySem.W.Frag} {H H' : Hp} {b l : Addr} (h : Bag H b l) (k : But b H H') : KT K H H' := by
  obtain ⟨ns, i, c, s, n, h1, _⟩ := h; exact k.ktL h1
def LbI (b bl : Addr) (room left : Int) (H : Hp) (σ : St) (H' : Hp) : Prop := ∃ wd : Int, σ = [some (.ref b), some (.int room), some (.int left), some (.int wd)] ∧ Bag H' b bl ∧ But b H H'
theorem of_two {K : PySem.W.Frag} {σ : St} {H : Hp} {Q : VK} {b bl : Addr} {x y : Str} {n m : Int} (h0 : σ[0]? = some (some (.ref b))) (hB : Bag H b bl)
    (k : ∀ v H', ((∃ a, v = .ref a ∧ SqT K H' a [.str x, .int n]) ∨ (∃ a c, v = .ref a ∧ SqT K H' a [.str "turned", .ref c] ∧ SqT K H' c [.str y, .int m])) → Bag H' b bl → But b H H' → Q v H') :
    tCall (spOf K) [] E0 (tCons (tVar 0) (tCons (tLst (tCons (tTup (tCons (tC (V.str x)) (tCons (tC (V.int n)) tNil))) (tCons (tTup (tCons (tC (V.str "turned")) (tCons (tTup (tCons (tC (V.str y)) (tCons (tC (V.int m)) tNil))) tNil))) tNil))) tNil)) σ H Q := by
  refine ⟨_, h0, by show 2 ≤ sizeLine; decide, fun p1 hp1 => ⟨by show 2 ≤ sizeLine; decide, fun p2 hp2 => ⟨by show 2 ≤ sizeLine; decide, fun p3 hp3 => ⟨by show 2 ≤ sizeLine; decide, fun p4 hp4 => ?_⟩⟩⟩⟩
  have s1 := Same.new (o := .tup [V.str x, .int n]) hp1
  have s2 := Same.new (o := .tup [V.str y, .int m]) hp2
  have s3 := Same.new (o := .tup [V.str "turned", .ref p2]) hp3
  have s4 := Same.new (o := .lst [V.ref p1, .ref p3]) hp4
  have e1 := s4 _ _ (s3 _ _ (s2 _ _ (upd_same (H := H) (a := p1) (o := .tup [V.str x, .int n]))))
  have e2 := s4 _ _ (s3 _ _ (upd_same (H := upd H p1 (.tup [V.str x, .int n])) (a := p2) (o := .tup [V.str y, .int m])))
  have e3 := s4 _ _ (upd_same (H := upd (upd H p1 (.tup [V.str x, .int n])) p2 (.tup [V.str y, .int m])) (a := p3) (o := .tup [V.str "turned", .ref p2]))
  have e4 := upd_same (H := upd (upd (upd H p1 (.tup [V.str x, .int n])) p2 (.tup [V.str y, .int m])) p3 (.tup [V.str "turned", .ref p2])) (a := p4) (o := .lst [V.ref p1, .ref p3])
  have s14 := s1.trans (s2.trans (s3.trans s4))
  have nq := (hB.same (s1.trans (s2.trans s3))).fresh hp4
  generalize upd (upd (upd (upd H p1 (.tup [V.str x, .int n])) p2 (.tup [V.str y, .int m])) p3 (.tup [V.str "turned", .ref p2])) p4 (.lst [V.ref p1, .ref p3]) = H4 at e1 e2 e3 e4 s14 ⊢
  have hB4 := hB.same s14
  refine ⟨b, bl, p4, _, rfl, hB4, SqL.of e4, nq, by simp, by simp, fun v H5 hv hB5 k5 => ?_⟩
  have kt5 : KT K H4 H5 := hB4.kt k5
  refine k v H5 ?_ hB5 ((But.of s14).trans k5)
  rcases List.mem_cons.mp hv with h | h
  · exact .inl ⟨p1, h, kt5 _ _ (SqT.of e1)⟩
  · exact .inr ⟨p3, p2, List.mem_singleton.mp h, kt5 _ _ (SqT.of e3), kt5 _ _ (SqT.of e2)⟩
theorem of_lag {K : PySem.W.Frag} {σ : St} {H : Hp} {Q : VK} {b bl : Addr} (h0 : σ[0]? = some (some (.ref b))) (hB : Bag H b bl)
    (k : ∀ v H', ((∃ a, v = .ref a ∧ SqT K H' a [.str "lag"]) ∨ (∃ a c, v = .ref a ∧ SqT K H' a [.str "turned", .ref c] ∧ SqT K H' c [.str "lag"])) → Bag H' b bl → But b H H' → Q v H') :
    tCall (spOf K) [] E0 (tCons (tVar 0) (tCons (tLst (tCons (tTup (tCons (tC (V.str "lag")) tNil)) (tCons (tTup (tCons (tC (V.str "lag")) tNil)) (tCons (tTup (tCons (tC (V.str "turned")) (tCons (tTup (tCons (tC (V.str "lag")) tNil)) tNil))) tNil)))) tNil)) σ H Q := by
  refine ⟨_, h0, by show 1 ≤ sizeLine; decide, fun p0 hp0 => ⟨by show 1 ≤ sizeLine; decide, fun p1 hp1 => ⟨by show 1 ≤ sizeLine; decide, fun p2 hp2 => ⟨by show 2 ≤ sizeLine; decide, fun p3 hp3 => ⟨by show 3 ≤ sizeLine; decide, fun p4 hp4 => ?_⟩⟩⟩⟩⟩
  have s0 := Same.new (o := .tup [V.str "lag"]) hp0
  have s1 := Same.new (o := .tup [V.str "lag"]) hp1
  have s2 := Same.new (o := .tup [V.str "lag"]) hp2
  have s3 := Same.new (o := .tup [V.str "turned", .ref p2]) hp3
  have s4 := Same.new (o := .lst [V.ref p0, .ref p1, .ref p3]) hp4
  have e0 := s4 _ _ (s3 _ _ (s2 _ _ (s1 _ _ (upd_same (H := H) (a := p0) (o := .tup [V.str "lag"])))))
  have e1 := s4 _ _ (s3 _ _ (s2 _ _ (upd_same (H := upd H p0 (.tup [V.str "lag"])) (a := p1) (o := .tup [V.str "lag"]))))
  have e2 := s4 _ _ (s3 _ _ (upd_same (H := upd (upd H p0 (.tup [V.str "lag"])) p1 (.tup [V.str "lag"])) (a := p2) (o := .tup [V.str "lag"])))
  have e3 := s4 _ _ (upd_same (H := upd (upd (upd H p0 (.tup [V.str "lag"])) p1 (.tup [V.str "lag"])) p2 (.tup [V.str "lag"])) (a := p3) (o := .tup [V.str "turned", .ref p2]))
  have e4 := upd_same (H := upd (upd (upd (upd H p0 (.tup [V.str "lag"])) p1 (.tup [V.str "lag"])) p2 (.tup [V.str "lag"])) p3 (.tup [V.str "turned", .ref p2])) (a := p4) (o := .lst [V.ref p0, .ref p1, .ref p3])
  have s14 := s0.trans (s1.trans (s2.trans (s3.trans s4)))
  have nq := (hB.same (s0.trans (s1.trans (s2.trans s3)))).fresh hp4
  generalize upd (upd (upd (upd (upd H p0 (.tup [V.str "lag"])) p1 (.tup [V.str "lag"])) p2 (.tup [V.str "lag"])) p3 (.tup [V.str "turned", .ref p2])) p4 (.lst [V.ref p0, .ref p1, .ref p3]) = H4 at e0 e1 e2 e3 e4 s14 ⊢
  have hB4 := hB.same s14
  refine ⟨b, bl, p4, _, rfl, hB4, SqL.of e4, nq, by simp, by simp, fun v H5 hv hB5 k5 => ?_⟩
  have kt5 : KT K H4 H5 := hB4.kt k5
  refine k v H5 ?_ hB5 ((But.of s14).trans k5)
  rcases List.mem_cons.mp hv with h | h
  · exact .inl ⟨p0, h, kt5 _ _ (SqT.of e0)⟩
  rcases List.mem_cons.mp h with h | h
  · exact .inl ⟨p1, h, kt5 _ _ (SqT.of e1)⟩
  · exact .inr ⟨p3, p2, List.mem_singleton.mp h, kt5 _ _ (SqT.of e3), kt5 _ _ (SqT.of e2)⟩
section
variable {P : Program} {w : World} {K : PySem.W.Frag} {mg : Str → Option Value} {base : Heap}
theorem sc_law_box : FnScope ["_law_bag_here", "_law_room", "_law_left", "_law_word"] ["_law_bag_here", "_law_room", "_law_left"] (defScope s_law_box) := ⟨rfl, rfl, rfl, by decide +kernel, rfl, by decide +kernel, by decide +kernel⟩
set_option maxHeartbeats 4000000 in
theorem ok_lbox (d : Dfn K mg "_law_box" s_law_box ["_law_bag_here", "_law_room", "_law_left"]) (T : Bi mg) (c_law_pull : Cal P w K mg base "_law_pull" 1 ["_law_bag_here", "_law_many"] spPull (Pla K ["_law_bag_here", "_law_many"])) (c_law_of : Cal P w K mg base "_law_of" 2 ["_law_bag_here", "_law_some"] (spOf K) (Pla K ["_law_bag_here", "_law_some"])) : Cal P w K mg base "_law_box" 3 ["_law_bag_here", "_law_room", "_law_left"] (spLBox K) (Pla K ["_law_bag_here", "_law_room", "_law_left"]) := by
  refine d.ok sc_law_box (fun vs H Q E h => ?_) (fun f cdv A outer s H vs Q E hr h => ?_)
  · obtain ⟨b, bl, room, left, rfl, _⟩ := h; rfl
  · obtain ⟨b, bl, room, left, rfl, hB, hl, k⟩ := h
    have nd := sc_law_box.nd
    refine ⟨_, (unqZ (Q_pss_cons (Q_ps_set (i := 3) nd rfl (by first | exact Or.inl rfl | exact Or.inr rfl) (Q_pcall c_law_pull (hr.mono (by omega)) (Q_pa_kx rfl (Q_pv 0) (Q_pa_kx rfl Q_pe_int Q_pa_nil))))
      (Q_pss_cons (Q_ps_if (Q_pt_cmpR op_lt (Q_pv 3) Q_pe_int (nomark _)) (Q_pss_one (Q_ps_ret (Q_pe_tup (Q_pa_kx rfl (Q_pe_tup (Q_pa_kx rfl Q_pe_str Q_pa_nil)) (Q_pa_kx rfl Q_pe_int (Q_pa_kx rfl Q_pe_int Q_pa_nil)))))) Q_pss_nil)
      (Q_pss_cons (Q_ps_if (Q_pt_cmpR op_lt (Q_pv 3) Q_pe_int (nomark _)) (Q_pss_one (Q_ps_ret (Q_pe_tup (Q_pa_kx rfl (Q_pe_tup (Q_pa_kx rfl Q_pe_str (Q_pa_kx rfl (Q_pcall c_law_of (hr.mono (by omega)) (Q_pa_kx rfl (Q_pv 0) (Q_pa_kx rfl (Q_pe_lst (Q_pa_kx rfl Q_pe_int (Q_pa_kx rfl Q_pe_int (Q_pa_kx rfl Q_pe_int (Q_pa_kx rfl Q_pe_int (Q_pa_kx rfl Q_pe_int (Q_pa_kx rfl (Q_pcall c_law_pull (hr.mono (by omega)) (Q_pa_kx rfl (Q_pv 0) (Q_pa_kx rfl Q_pe_int Q_pa_nil))) Q_pa_nil))))))) Q_pa_nil))) Q_pa_nil))) (Q_pa_kx rfl Q_pe_int (Q_pa_kx rfl Q_pe_int Q_pa_nil)))))) Q_pss_nil)
      (Q_pss_cons (Q_ps_cut (LbI b bl room left H) (Q_ps_if (Q_PW_pt (Q_pw_and (Q_pt_cmpR op_lt (Q_pv 3) Q_pe_int (nomark _)) (Q_pw_and1 (Q_pt_cmpR op_gt (Q_pv 1) Q_pe_int (nomark _))))) (Q_pss_one (Q_ps_ret (Q_pe_tup (Q_pa_kx rfl (Q_pcall c_law_of (hr.mono (by omega)) (Q_pa_kx rfl (Q_pv 0) (Q_pa_kx rfl (Q_pe_lst (Q_pa_kx rfl (Q_pe_tup (Q_pa_kx rfl Q_pe_str Q_pa_nil)) (Q_pa_kx rfl (Q_pe_tup (Q_pa_kx rfl Q_pe_str Q_pa_nil)) (Q_pa_kx rfl (Q_pe_tup (Q_pa_kx rfl Q_pe_str (Q_pa_kx rfl (Q_pe_tup (Q_pa_kx rfl Q_pe_str Q_pa_nil)) Q_pa_nil))) Q_pa_nil)))) Q_pa_nil))) (Q_pa_kx rfl Q_pe_int (Q_pa_kx rfl Q_pe_int Q_pa_nil)))))) Q_pss_nil))
      (Q_pss_cons (Q_ps_cut (LbI b bl room left H) (Q_ps_if (Q_PW_pt (Q_pw_and (Q_pt_cmpR op_eq (Q_pv 3) Q_pe_int (nomark _)) (Q_pw_and1 (Q_pt_cmpR op_gt (Q_pv 2) Q_pe_int (nomark _))))) (Q_pss_one (Q_ps_ret (Q_pe_tup (Q_pa_kx rfl (Q_pcall c_law_of (hr.mono (by omega)) (Q_pa_kx rfl (Q_pv 0) (Q_pa_kx rfl (Q_pe_lst (Q_pa_kx rfl (Q_pe_tup (Q_pa_kx rfl Q_pe_str (Q_pa_kx rfl Q_pe_int Q_pa_nil))) (Q_pa_kx rfl (Q_pe_tup (Q_pa_kx rfl Q_pe_str (Q_pa_kx rfl (Q_pe_tup (Q_pa_kx rfl Q_pe_str (Q_pa_kx rfl Q_pe_int Q_pa_nil))) Q_pa_nil))) Q_pa_nil))) Q_pa_nil))) (Q_pa_kx rfl Q_pe_int (Q_pa_kx rfl Q_pe_int Q_pa_nil)))))) Q_pss_nil))
      (Q_pss_cons (Q_ps_if (Q_pt_cmpR op_eq (Q_pv 3) Q_pe_int (nomark _)) (Q_pss_one (Q_ps_ret (Q_pe_tup (Q_pa_kx rfl (Q_pcall c_law_of (hr.mono (by omega)) (Q_pa_kx rfl (Q_pv 0) (Q_pa_kx rfl (Q_pe_lst (Q_pa_kx rfl (Q_pe_tup (Q_pa_kx rfl Q_pe_str (Q_pa_kx rfl Q_pe_int Q_pa_nil))) (Q_pa_kx rfl (Q_pe_tup (Q_pa_kx rfl Q_pe_str (Q_pa_kx rfl (Q_pe_tup (Q_pa_kx rfl Q_pe_str (Q_pa_kx rfl Q_pe_int Q_pa_nil))) Q_pa_nil))) Q_pa_nil))) Q_pa_nil))) (Q_pa_kx rfl Q_pe_int (Q_pa_kx rfl Q_pe_int Q_pa_nil)))))) Q_pss_nil)
      (Q_pss_cons (Q_ps_if (Q_pt_cmpR op_eq (Q_pv 3) Q_pe_int (nomark _)) (Q_pss_one (Q_ps_ret (Q_pe_tup (Q_pa_kx rfl (Q_pe_tup (Q_pa_kx rfl Q_pe_str (Q_pa_kx rfl (Q_pe_tup (Q_pa_kx rfl Q_pe_str (Q_pa_kx rfl (Q_pcall c_law_pull (hr.mono (by omega)) (Q_pa_kx rfl (Q_pv 0) (Q_pa_kx rfl Q_pe_int Q_pa_nil))) Q_pa_nil))) Q_pa_nil))) (Q_pa_kx rfl Q_pe_int (Q_pa_kx rfl Q_pe_int Q_pa_nil)))))) Q_pss_nil)
      (Q_pss_cons (Q_ps_if (Q_pt_cmpR op_eq (Q_pv 3) Q_pe_int (nomark _)) (Q_pss_one (Q_ps_ret (Q_pe_tup (Q_pa_kx rfl (Q_pcall c_law_of (hr.mono (by omega)) (Q_pa_kx rfl (Q_pv 0) (Q_pa_kx rfl (Q_pe_lst (Q_pa_kx rfl (Q_pe_tup (Q_pa_kx rfl Q_pe_str (Q_pa_kx rfl Q_pe_int Q_pa_nil))) (Q_pa_kx rfl (Q_pe_tup (Q_pa_kx rfl Q_pe_str (Q_pa_kx rfl (Q_pe_tup (Q_pa_kx rfl Q_pe_str (Q_pa_kx rfl Q_pe_int Q_pa_nil))) Q_pa_nil))) Q_pa_nil))) Q_pa_nil))) (Q_pa_kx rfl Q_pe_int (Q_pa_kx rfl Q_pe_int Q_pa_nil)))))) Q_pss_nil)
      (Q_pss_cons (Q_ps_if (Q_pt_cmpR op_gt (Q_pv 2) Q_pe_int (nomark _)) (Q_pss_one (Q_ps_ret (Q_pe_tup (Q_pa_kx rfl (Q_pe_tup (Q_pa_kx rfl Q_pe_str (Q_pa_kx rfl (Q_pe_tup (Q_pa_kx rfl Q_pe_int (Q_pa_kx rfl Q_pe_int Q_pa_nil))) Q_pa_nil))) (Q_pa_kx rfl Q_pe_int (Q_pa_kx rfl Q_pe_int Q_pa_nil)))))) Q_pss_nil)
      (Q_pss_one (Q_ps_ret (Q_pe_tup (Q_pa_kx rfl (Q_pe_tup (Q_pa_kx rfl Q_pe_str (Q_pa_kx rfl Q_pe_int Q_pa_nil))) (Q_pa_kx rfl Q_pe_int (Q_pa_kx rfl Q_pe_int Q_pa_nil)))))))))))))))), ?_⟩
    refine ⟨_, rfl, b, bl, 11, rfl, hB, by decide, by decide, fun wd H1 w0 w1 hB1 k1 => ?_⟩
    have nv1 : V.int 1 = nV 1 := rfl
    have nv0 : V.int 0 = nV 0 := rfl
    have nv2 : V.int 2 = nV 2 := rfl
    have fin : ∀ (wt : Wt) (lo hi : Nat) (v : V) (H2 : Hp), Wr K H2 wt v → Small wt → wt.ends = some (lo, hi) → 1 ≤ lo → (lo : Int) ≤ left → hi ≤ 2 → (lagN wt = 0 ∨ (lagN wt = 1 ∧ 0 < room)) → Bag H2 b bl → But b H H2 → ∀ q, H2 q = none → Q (.ref q) (upd H2 q (.tup [v, nV lo, nV hi])) := fun wt lo hi v H2 h1 h2 h3 h4 h5 h6 h7 h8 h9 q hq =>
      k q wt lo hi v _ (SqT.of upd_same) (h1.kt (Same.kt (Same.new hq))) h2 h3 h4 h5 h6 h7 (h8.same (Same.new hq)) (h9.trans (But.of (Same.new hq)))
    have z3 : 3 ≤ sizeLine := by decide
    refine ⟨_, rfl, _, _, rfl, rfl, _, rfl, ite2 (fun _ => ?_) (fun _ => ?_)⟩
    · refine ⟨by show 1 ≤ sizeLine; decide, fun p hp => ⟨z3, fun q hq => ?_⟩⟩
      exact fin (.box .wire) 1 1 (.ref p) _ ⟨p, rfl, SqT.of upd_same⟩ ⟨.wire, trivial, .inl rfl⟩ (by rw [Wt.ends]; rfl) (by decide) hl (by decide) (.inl (by decide +kernel)) (hB1.same (Same.new hp)) (k1.trans (But.of (Same.new hp))) q hq
    refine ⟨_, rfl, _, _, rfl, rfl, _, rfl, ite2 (fun _ => ?_) (fun _ => ?_)⟩
    · refine ⟨_, rfl, _, rfl, b, bl, 97, rfl, hB1, by decide, by decide, fun z H2 z0 z1 hB2 k2 => ?_⟩
      refine ⟨by show 6 ≤ sizeLine; decide, fun p1 hp1 => ?_⟩
      have hB3 := hB2.same (Same.new (o := .lst [V.int 0, .int 1, .int 2, .int 3, .int 96, .int z]) hp1)
      have nq := hB2.fresh hp1
      refine ⟨b, bl, p1, _, rfl, hB3, SqL.of upd_same, nq, by simp, by simp, fun x H4 hx hB4 k4 => ?_⟩
      obtain ⟨n, rfl, hn⟩ : ∃ n : Nat, x = nV n ∧ n ≤ 96 := by
        simp only [List.mem_cons, List.not_mem_nil, or_false] at hx
        rcases hx with h | h | h | h | h | h
        · exact ⟨0, h, by decide⟩
        · exact ⟨1, h, by decide⟩
        · exact ⟨2, h, by decide⟩
        · exact ⟨3, h, by decide⟩
        · exact ⟨96, h, by decide⟩
        · exact ⟨z.toNat, by rw [h]; show V.int z = V.int (z.toNat : Nat); rw [Int.toNat_of_nonneg z0], by omega⟩
      have k04 : But b H H4 := k1.trans (k2.trans ((But.of (Same.new hp1)).trans k4))
      refine ⟨by show 2 ≤ sizeLine; decide, fun p2 hp2 => ⟨z3, fun q hq => ?_⟩⟩
      exact fin (.box (.weigh n)) 1 1 (.ref p2) _ ⟨p2, rfl, SqT.of upd_same⟩ ⟨.weigh n, hn, .inl rfl⟩ (by rw [Wt.ends]; rfl) (by decide) hl (by decide) (.inl (by rfl)) (hB4.same (Same.new hp2)) (k04.trans (But.of (Same.new hp2))) q hq
    have two : ∀ (ba bb : Bx) (x y : Str) (n m lo hi : Nat), ba.ok → bb.ok → (∀ H a, SqT K H a [.str x, .int (n : Nat)] → BxAt K H a ba) → (∀ H a, SqT K H a [.str y, .int (m : Nat)] → BxAt K H a bb) → ba.ends = (lo, hi) → bb.ends = (hi, lo) → 1 ≤ lo → (lo : Int) ≤ left → hi ≤ 2 → ba ≠ .lag → bb ≠ .lag →
        ∀ v H', ((∃ a, v = .ref a ∧ SqT K H' a [.str x, .int (n : Nat)]) ∨ (∃ a c, v = .ref a ∧ SqT K H' a [.str "turned", .ref c] ∧ SqT K H' c [.str y, .int (m : Nat)])) → Bag H' b bl → But b H H' → ∀ q, H' q = none → Q (.ref q) (upd H' q (.tup [v, nV lo, nV hi])) := fun ba bb x y n m lo hi oa ob ha hb ea eb l1 l2 l3 na nb v H' hv hB' kb q hq => by
      rcases hv with ⟨a, rfl, h⟩ | ⟨a, c, rfl, h1, h2⟩
      · exact fin (.box ba) lo hi (.ref a) H' ⟨a, rfl, ha _ _ h⟩ ⟨ba, oa, .inl rfl⟩ (by rw [Wt.ends, ea]) l1 l2 l3 (.inl (by unfold lagN; rw [Wt.boxes, List.count_singleton]; simp [na])) hB' kb q hq
      · exact fin (.trn (.box bb)) lo hi (.ref a) H' ⟨a, .ref c, rfl, h1, c, rfl, hb _ _ h2⟩ ⟨bb, ob, .inr rfl⟩ (by rw [Wt.ends, Wt.ends, eb]; rfl) l1 l2 l3 (.inl (by unfold lagN; rw [Wt.boxes, Wt.boxes, List.count_singleton]; simp [nb])) hB' kb q hq
    refine ⟨?_, ?_⟩
    · refine ⟨_, rfl, _, _, rfl, rfl, _, rfl, ?_⟩
      refine ite2 (fun _ => ⟨_, rfl, _, _, rfl, rfl, _, rfl, ite2 (fun hroom => ?_) (fun _ => ⟨wd, rfl, hB1, k1⟩)⟩) (fun _ => ⟨wd, rfl, hB1, k1⟩)
      refine of_lag rfl hB1 fun v H2 hv hB2 k2 => ⟨z3, fun q hq => ?_⟩
      have hr0 := of_decide_eq_true hroom
      rcases hv with ⟨a, rfl, h⟩ | ⟨a, c, rfl, h1, h2⟩
      · exact fin (.box .lag) 1 1 (.ref a) H2 ⟨a, rfl, h⟩ ⟨.lag, trivial, .inl rfl⟩ (by rw [Wt.ends]; rfl) (by decide) hl (by decide) (.inr ⟨by decide +kernel, hr0⟩) hB2 (k1.trans k2) q hq
      · exact fin (.trn (.box .lag)) 1 1 (.ref a) H2 ⟨a, .ref c, rfl, h1, c, rfl, h2⟩ ⟨.lag, trivial, .inr rfl⟩ (by rw [Wt.ends, Wt.ends]; rfl) (by decide) hl (by decide) (.inr ⟨by decide +kernel, hr0⟩) hB2 (k1.trans k2) q hq
    clear hB1 k1 w0 w1
    rintro σ H1 ⟨wd, rfl, hB1, k1⟩
    refine ⟨?_, ?_⟩
    · refine ⟨_, rfl, rfl, _, rfl, ?_⟩
      refine ite2 (fun _ => ⟨_, rfl, _, _, rfl, rfl, _, rfl, ite2 (fun hleft => ?_) (fun _ => ⟨wd, rfl, hB1, k1⟩)⟩) (fun _ => ⟨wd, rfl, hB1, k1⟩)
      have hl2 := of_decide_eq_true hleft
      refine of_two rfl hB1 fun v H2 hv hB2 k2 => ⟨z3, fun q hq => ?_⟩
      exact two (.sum 2) (.copy 2) "sum" "copy" 2 2 2 1 (by unfold Bx.ok; decide) (by unfold Bx.ok; decide) (fun _ _ h => h) (fun _ _ h => h) rfl rfl (by decide) (by omega) (by decide) (fun z => by cases z) (fun z => by cases z) v H2 hv hB2 (k1.trans k2) q hq
    clear hB1 k1
    rintro σ H1 ⟨wd, rfl, hB1, k1⟩
    refine ⟨_, rfl, rfl, _, rfl, ite2 (fun _ => ?_) (fun _ => ?_)⟩
    · refine of_two rfl hB1 fun v H2 hv hB2 k2 => ⟨z3, fun q hq => ?_⟩
      exact two (.copy 2) (.sum 2) "copy" "sum" 2 2 1 2 (by unfold Bx.ok; decide) (by unfold Bx.ok; decide) (fun _ _ h => h) (fun _ _ h => h) rfl rfl (by decide) hl (by decide) (fun z => by cases z) (fun z => by cases z) v H2 hv hB2 (k1.trans k2) q hq
    refine ⟨_, rfl, rfl, _, rfl, ite2 (fun _ => ?_) (fun _ => ?_)⟩
    · refine ⟨_, rfl, b, bl, 97, rfl, hB1, by decide, by decide, fun z H2 z0 z1 hB2 k2 => ?_⟩
      refine ⟨by show 2 ≤ sizeLine; decide, fun p1 hp1 => ⟨by show 2 ≤ sizeLine; decide, fun p2 hp2 => ⟨z3, fun q hq => ?_⟩⟩⟩
      have s1 := Same.new (o := .tup [V.str "weigh", .int z]) hp1
      have s2 := Same.new (o := .tup [V.str "turned", .ref p1]) hp2
      have e1 : (upd (upd H2 p1 (.tup [V.str "weigh", .int z])) p2 (.tup [V.str "turned", .ref p1])) p1 = some (.tup [V.str "weigh", nV z.toNat]) := by
        rw [s2 _ _ upd_same]; show _ = some (HO.tup [V.str "weigh", V.int (z.toNat : Nat)]); rw [Int.toNat_of_nonneg z0]
      exact fin (.trn (.box (.weigh z.toNat))) 1 1 (.ref p2) _ ⟨p2, .ref p1, rfl, SqT.of upd_same, p1, rfl, SqT.of e1⟩ ⟨.weigh z.toNat, by show z.toNat ≤ 96; omega, .inr rfl⟩ (by rw [Wt.ends, Wt.ends]; rfl) (by decide) hl (by decide) (.inl (by unfold lagN; rw [Wt.boxes, Wt.boxes]; rfl)) (hB2.same (s1.trans s2)) ((k1.trans k2).trans (But.of (s1.trans s2))) q hq
    refine ⟨_, rfl, rfl, _, rfl, ite2 (fun _ => ?_) (fun _ => ?_)⟩
    · refine of_two rfl hB1 fun v H2 hv hB2 k2 => ⟨z3, fun q hq => ?_⟩
      exact two (.copy 0) (.sum 0) "copy" "sum" 0 0 1 0 (by unfold Bx.ok; decide) (by unfold Bx.ok; decide) (fun _ _ h => h) (fun _ _ h => h) rfl rfl (by decide) hl (by decide) (fun z => by cases z) (fun z => by cases z) v H2 hv hB2 (k1.trans k2) q hq
    refine ⟨_, rfl, _, _, rfl, rfl, _, rfl, ite2 (fun hleft => ?_) (fun _ => ?_)⟩
    · have hl2 := of_decide_eq_true hleft
      refine ⟨by show 2 ≤ sizeLine; decide, fun p1 hp1 => ⟨by show 2 ≤ sizeLine; decide, fun p2 hp2 => ⟨z3, fun q hq => ?_⟩⟩⟩
      have s1 := Same.new (o := .tup [V.int 1, .int 0]) hp1
      have s2 := Same.new (o := .tup [V.str "shuffle", .ref p1]) hp2
      exact fin (.box (.shuf [1, 0])) 2 2 (.ref p2) _ ⟨p2, rfl, p1, SqT.of upd_same, SqT.of (s2 _ _ upd_same)⟩ ⟨.shuf [1, 0], ⟨by decide, by decide, by decide⟩, .inl rfl⟩ (by rw [Wt.ends]; rfl) (by decide) (by omega) (by decide) (.inl (by rfl)) (hB1.same (s1.trans s2)) (k1.trans (But.of (s1.trans s2))) q hq
    · refine ⟨by show 2 ≤ sizeLine; decide, fun p1 hp1 => ⟨z3, fun q hq => ?_⟩⟩
      exact fin (.box (.copy 1)) 1 1 (.ref p1) _ ⟨p1, rfl, SqT.of upd_same⟩ ⟨.copy 1, by unfold Bx.ok; decide, .inl rfl⟩ (by rw [Wt.ends]; rfl) (by decide) hl (by decide) (.inl (by rfl)) (hB1.same (Same.new hp1)) (k1.trans (But.of (Same.new hp1))) q hq
end
end L2.Lw

set_option Elab.async false
set_option linter.all false
set_option maxRecDepth 100000
namespace L2.Lw
open PySem PySem.Spec PyProof.Rows
/-! ### the law's layers -/
def Smalls (ws : List Wt) : Prop := ∀ w ∈ ws, Small w
def endsT (ws : List Wt) : Option (Nat × Nat) := (endsL ws).map besE
theorem endsL_nil : endsL [] = some [] := by rw [endsL]
theorem endsL_cons (w : Wt) (ws : List Wt) : endsL (w :: ws) = w.ends.bind fun e => (endsL ws).map fun es => e :: es := by rw [endsL]
theorem endsL_app : ∀ {ws : List Wt} {es : List (Nat × Nat)} {w : Wt} {e : Nat × Nat}, endsL ws = some es → w.ends = some e → endsL (ws ++ [w]) = some (es ++ [e])
  | [], es, w, e, h, q => by
    rw [endsL_nil] at h; injection h with h; subst h
    rw [List.nil_append, endsL_cons, q, endsL_nil]; rfl
  | x :: ws, es, w, e, h, q => by
    rw [endsL_cons] at h
    cases hx : x.ends with
    | none => rw [hx] at h; cases h
    | some ex =>
      cases hl : endsL ws with
      | none => rw [hx, hl] at h; cases h
      | some el =>
        rw [hx, hl] at h; injection h with h; subst h
        rw [List.cons_append, endsL_cons, hx, endsL_app hl q]; rfl
theorem endsT_app {ws : List Wt} {w : Wt} {a b c d : Nat} (h : endsT ws = some (a, b)) (q : w.ends = some (c, d)) : endsT (ws ++ [w]) = some (a + c, b + d) := by
  unfold endsT at h
  cases hl : endsL ws with
  | none => rw [hl] at h; cases h
  | some es =>
    rw [hl] at h
    have h2 : besE es = (a, b) := by injection h
    unfold endsT
    rw [endsL_app hl q]
    have e1 : (es.map (·.1)).sum = a := congrArg Prod.fst h2
    have e2 : (es.map (·.2)).sum = b := congrArg Prod.snd h2
    show some (besE (es ++ [(c, d)])) = _
    unfold besE
    rw [List.map_append, List.map_append, List.sum_append, List.sum_append, e1, e2]
    rfl
theorem lagL_app (ws : List Wt) (w : Wt) : (boxesL (ws ++ [w])).count .lag = (boxesL ws).count .lag + lagN w := by
  rw [boxesL_app, List.count_append, boxesL_cons, boxesL_nil, List.append_nil]; rfl
theorem Smalls.app {ws : List Wt} {w : Wt} (h : Smalls ws) (q : Small w) : Smalls (ws ++ [w]) := fun x hx => by
  rcases List.mem_append.mp hx with z | z
  · exact h x z
  · rw [List.mem_singleton.mp z]; exact q
theorem pad {K : PySem.W.Frag} {H : Hp} {w : Wt} {v : V} (hw : Wr K H w v) (hs : Small w) (he : w.ends = some (1, 0)) (hl : lagN w = 0) : ∀ (l : Nat) {ws : List Wt} {us : List V} {c r : Nat}, WrAll K H ws us → Smalls ws → endsT ws = some (c, r) →
    WrAll K H (ws ++ List.replicate l w) (us ++ List.replicate l v) ∧ Smalls (ws ++ List.replicate l w) ∧ endsT (ws ++ List.replicate l w) = some (c + l, r) ∧ (boxesL (ws ++ List.replicate l w)).count .lag = (boxesL ws).count .lag
  | 0, ws, us, c, r, h1, h2, h3 => by
    rw [List.replicate_zero, List.replicate_zero, List.append_nil, List.append_nil]; exact ⟨h1, h2, h3, rfl⟩
  | l + 1, ws, us, c, r, h1, h2, h3 => by
    obtain ⟨a1, a2, a3, a4⟩ := pad hw hs he hl l (h1.app hw) (h2.app hs) (endsT_app h3 he)
    rw [List.append_assoc, List.append_assoc] at a1
    rw [List.append_assoc] at a2 a3 a4
    refine ⟨a1, a2, ?_, ?_⟩
    · rw [List.replicate_succ]; refine a3.trans ?_; congr 2; omega
    · rw [List.replicate_succ]; refine a4.trans ?_; rw [lagL_app, hl]; rfl
theorem Bx.word_nt (b : Bx) : ¬ (V.str b.word = V.str "turned") := by
  intro y
  injection y with y
  cases b with
  | wire => exact absurd (show ("wire" : Str) = "turned" from y) (by decide +kernel)
  | lag => exact absurd (show ("lag" : Str) = "turned" from y) (by decide +kernel)
  | weigh n => exact absurd (show ("weigh" : Str) = "turned" from y) (by decide +kernel)
  | copy n => exact absurd (show ("copy" : Str) = "turned" from y) (by decide +kernel)
  | sum n => exact absurd (show ("sum" : Str) = "turned" from y) (by decide +kernel)
  | shuf l => exact absurd (show ("shuffle" : Str) = "turned" from y) (by decide +kernel)
  | mix l => exact absurd (show ("mix" : Str) = "turned" from y) (by decide +kernel)
section
variable {P : Program} {w : World} {K : PySem.W.Frag} {mg : Str → Option Value} {base : Heap}
def spLayer (K : PySem.W.Frag) : Sp := fun vs H Q _ => ∃ (b bl : Addr) (left most room : Nat), vs = [.ref b, nV left, nV most, nV room] ∧ Bag H b bl ∧ 1 ≤ left ∧ left ≤ most + 1 ∧ 1 ≤ most ∧ most ≤ 4 ∧
  ∀ (t l : Addr) (us : List V) (ws : List Wt) (right lg : Nat) H', SqT K H' t [.ref l, nV right, nV lg] → H' l = some (.lst us) → WrAll K H' ws us → Smalls ws → endsT ws = some (left, right) → 1 ≤ ws.length → ws.length ≤ left → right ≤ most + 1 → (boxesL ws).count .lag = lg → lg ≤ room → Bag H' b bl → But b H H' → Q (.ref t) H'
theorem sc_law_layer : FnScope ["_law_bag_here", "_law_left", "_law_most", "_law_room", "_law_boxes_", "_law_right", "_law_lags_", "_law_at", "_law_box_here", "_law_low", "_law_high"] ["_law_bag_here", "_law_left", "_law_most", "_law_room"] (defScope s_law_layer) := ⟨rfl, rfl, rfl, by decide +kernel, rfl, by decide +kernel, by decide +kernel⟩
set_option maxHeartbeats 1000000 in
theorem ok_layer (d : Dfn K mg "_law_layer" s_law_layer ["_law_bag_here", "_law_left", "_law_most", "_law_room"]) (T : Bi mg) (c_law_box : Cal P w K mg base "_law_box" 3 ["_law_bag_here", "_law_room", "_law_left"] (spLBox K) (Pla K ["_law_bag_here", "_law_room", "_law_left"])) : Cal P w K mg base "_law_layer" 4 ["_law_bag_here", "_law_left", "_law_most", "_law_room"] (spLayer K) (Pla K ["_law_bag_here", "_law_left", "_law_most", "_law_room"]) := by
  refine d.ok sc_law_layer (fun vs H Q E h => ?_) (fun f cdv A outer s H vs Q E hr h => ?_)
  · obtain ⟨b, bl, left, most, room, rfl, _⟩ := h; rfl
  · obtain ⟨b, bl, left, most, room, rfl, hB, h1, h2, h3, h4, k⟩ := h
    have nd := sc_law_layer.nd
    refine ⟨_, (unqZ (Q_pss_cons (Q_ps_par3 (i := 4) (j := 5) (k := 6) (by rfl) nd rfl rfl rfl rfl rfl rfl (Q_pa_kx rfl (Q_pe_lst Q_pa_nil) (Q_pa_kx rfl Q_pe_int (Q_pa_kx rfl Q_pe_int Q_pa_nil))) (by rfl))
      (Q_pss_cons (Q_ps_for PassesOwn.never rfl (Q_pi_range1 (by rfl) T.range (Q_pa_kx rfl (Q_pe_op op_add (Q_pv 1) Q_pe_int) Q_pa_nil)) (pg_name (i := 7) nd rfl (by first | exact Or.inl rfl | exact Or.inr rfl)) (Q_pss_one (Q_ps_if (Q_PW_pt (Q_pw_and (Q_pt_cmpR op_gt (Q_pv 1) Q_pe_int (nomark _)) (Q_pw_and1 (Q_PW_pt (Q_pw_or (Q_pt_cmpR op_lt (Q_pv 5) (Q_pv 2) (nomark _)) (Q_pw_or1 (Q_pt_cmpR op_eq (Q_pv 7) Q_pe_int (nomark _)))))))) (Q_pss_cons (Q_ps_asg (Q_pcall c_law_box (hr.mono (by omega)) (Q_pa_kx rfl (Q_pv 0) (Q_pa_kx rfl (Q_pe_op op_sub (Q_pv 3) (Q_pv 6)) (Q_pa_kx rfl (Q_pv 1) Q_pa_nil)))) (pg_tup rfl (pgs_cons (pg_name (i := 8) nd rfl (by first | exact Or.inl rfl | exact Or.inr rfl)) (pgs_cons (pg_name (i := 9) nd rfl (by first | exact Or.inl rfl | exact Or.inr rfl)) (pgs_cons (pg_name (i := 10) nd rfl (by first | exact Or.inl rfl | exact Or.inr rfl)) pgs_nil)))))
      (Q_pss_cons (Q_ps_expr (Q_pe_bm PySem.F.plainAttrs_list PySem.F.slot_list_append PySem.F.type_list_append mt_append (Q_pv 4) (Q_pa_kx rfl (Q_pv 8) Q_pa_nil)))
      (Q_pss_cons (Q_ps_par (i := 1) (j := 5) (by rfl) nd rfl rfl (by decide) rfl rfl (Q_pa_kx rfl (Q_pe_op op_sub (Q_pv 1) (Q_pv 9)) (Q_pa_kx rfl (Q_pe_op op_add (Q_pv 5) (Q_pv 10)) Q_pa_nil)) (by rfl))
      (Q_pss_one (Q_ps_set (i := 6) nd rfl (by first | exact Or.inl rfl | exact Or.inr rfl) (Q_pe_op op_add (Q_pv 6) (Q_pe_callTy call_int1 (by rfl) T.int (by decide +kernel) (Q_pa_kx rfl (Q_pe_cmpR (inK K) Q_pe_str (Q_pe_tup (Q_pa_kx rfl (Q_pe_ix (ixT K) (Q_pv 8) Q_pe_int (fun _ _ => rfl)) (Q_pa_kx rfl (Q_pe_ifExp (Q_pt_cmpR op_eq (Q_pe_ix (ixT K) (Q_pv 8) Q_pe_int (fun _ _ => rfl)) Q_pe_str (nomark _)) (Q_pe_ix (ixT K) (Q_pe_ix (ixT K) (Q_pv 8) Q_pe_int (fun _ _ => rfl)) Q_pe_int (fun _ _ => rfl)) Q_pe_str) Q_pa_nil))) rfl) Q_pa_nil)))))))) Q_pss_nil)))
      (Q_pss_one (Q_ps_ret (Q_pe_tup (Q_pa_kx rfl (Q_pe_op op_cat (Q_pv 4) (Q_pe_op op_rep (Q_pe_lst (Q_pa_kx rfl (Q_pe_tup (Q_pa_kx rfl Q_pe_str (Q_pa_kx rfl Q_pe_int Q_pa_nil))) Q_pa_nil)) (Q_pv 1))) (Q_pa_kx rfl (Q_pv 5) (Q_pa_kx rfl (Q_pv 6) Q_pa_nil))))))))), ?_⟩
    refine ⟨by decide, fun a ha => ?_⟩
    have nb := hB.fresh ha
    have nl := hB.freshL ha
    have kU : ∀ {H1 : Hp} {o : HO}, But b H H1 → But b H (upd H1 a o) := fun k1 c o e n => by rw [upd_ne (ne_of_none e ha)]; exact k1 c o e n
    have bU : ∀ {H1 : Hp} {o : HO}, Bag H1 b bl → Bag (upd H1 a o) b bl := fun h => h.but But.upd (Ne.symm nb) (Ne.symm nl)
    refine ⟨_, _, _, rfl, _, rfl, _, _, rfl, rfl, ((left + 1 : Nat) : Int), by simp, by omega, by omega, ?_⟩
    refine for_range (lo := 0) (n := (((left + 1 : Nat) : Int)).toNat) (fun i σ H' => ∃ v7 v8 v9 v10 us ws, ∃ (r c lg l : Nat), σ = [some (.ref b), some (nV l), some (nV most), some (nV room), some (.ref a), some (nV r), some (nV lg), v7, v8, v9, v10] ∧ H' a = some (.lst us) ∧ WrAll K H' ws us ∧ Smalls ws ∧ endsT ws = some (c, r) ∧ c + l = left ∧ ws.length ≤ c ∧ (1 ≤ i → 1 ≤ ws.length) ∧ (i = 0 → r = 0 ∧ c = 0) ∧ r ≤ most + 1 ∧ (boxesL ws).count .lag = lg ∧ lg ≤ room ∧ Bag H' b bl ∧ But b H H') ?_ ?_ ?_
    · refine ⟨none, none, none, none, [], [], 0, 0, 0, left, rfl, upd_same, by rw [WrAll], fun _ z => (by cases z), by unfold endsT; rw [endsL_nil]; rfl, by omega, by simp, by omega, fun _ => ⟨rfl, rfl⟩, by omega, by rw [boxesL_nil]; rfl, by omega, bU hB, kU (But.refl _ _)⟩
    · rintro i σ H1 hi ⟨v7, v8, v9, v10, us, ws, r, c, lg, l, rfl, q1, q2, q3, q4, q5, q6, q7, q8, q9, q10, q11, hB1, k1⟩
      have hl0 := q2.len
      have sz : (20 : Nat) ≤ sizeLine := by decide
      have ip : ¬ (0 < l) ∨ ¬ (i = 0) → 1 ≤ i := fun z => by
        rcases Nat.eq_zero_or_pos i with y | y
        · have := (q8 y).2
          omega
        · exact y
      refine ⟨_, rfl, _, _, rfl, rfl, _, rfl, ite2 (fun hp => ⟨_, rfl, _, rfl, _, _, rfl, rfl, _, rfl, ite2 (fun ht => ?_) (fun ht => ⟨_, rfl, rfl, _, rfl, ite2 (fun ht2 => ?_) (fun ht2 => ?_)⟩)⟩) (fun hp => ?_)⟩
      · refine iteT ?_
        have hr : r + 2 ≤ most + 1 := by have := of_decide_eq_true ht; omega
        clear ht
        have hl1 := of_decide_eq_true hp
        refine ⟨_, rfl, _, rfl, _, rfl, _, _, rfl, rfl, _, rfl, b, bl, (room : Int) - lg, (l : Int), rfl, hB1, by omega, fun t w0 lo hi' v H2 hT hW hS hE hlo hle hhi hlag hB2 k2 => ?_⟩
        refine ⟨t, _, rfl, hT, rfl, _, _, rfl, _, _, rfl, _, _, rfl, rfl, ?_⟩
        have q1' : H2 a = some (.lst us) := k2 _ _ q1 nb
        refine ⟨_, rfl, .inl ⟨rfl, us, SqL.of q1'⟩, _, rfl, a, us, v, rfl, rfl, q1', by omega, ?_⟩
        have e3 := upd_same (H := H2) (a := a) (o := .lst (us ++ [v]))
        have kU2 : But a H2 (upd H2 a (.lst (us ++ [v]))) := But.upd
        have kT2 : KT K H2 (upd H2 a (.lst (us ++ [v]))) := kU2.ktL q1'
        have hB3 : Bag (upd H2 a (.lst (us ++ [v]))) b bl := bU hB2
        have k3 : But b H (upd H2 a (.lst (us ++ [v]))) := kU (k1.trans k2)
        have q2' := ((q2.kt (hB1.kt k2)).kt kT2).app (hW.kt kT2)
        have hW3 := hW.kt kT2
        clear kU2 hT hW
        generalize upd H2 a (.lst (us ++ [v])) = H3 at e3 kT2 hB3 k3 q2' hW3 ⊢
        refine ⟨_, rfl, _, rfl, _, _, rfl, rfl, _, rfl, _, rfl, _, _, rfl, rfl, _, _, rfl, ?_⟩
        have fin : ∀ (g : Nat) H4, lagN w0 = g → Same H3 H4 → ∀ v7, ∃ v7' v8 v9 v10 us' ws', ∃ (r' c' lg' l' : Nat), ([some (.ref b), some (V.int ((l : Int) - lo)), some (nV most), some (nV room), some (.ref a), some (V.int ((r : Int) + hi')), some (V.int ((lg : Int) + g)), v7, some v, some (nV lo), some (nV hi')] : St) = [some (.ref b), some (nV l'), some (nV most), some (nV room), some (.ref a), some (nV r'), some (nV lg'), v7', v8, v9, v10] ∧ H4 a = some (.lst us') ∧ WrAll K H4 ws' us' ∧ Smalls ws' ∧ endsT ws' = some (c', r') ∧ c' + l' = left ∧ ws'.length ≤ c' ∧ (1 ≤ i + 1 → 1 ≤ ws'.length) ∧ (i + 1 = 0 → r' = 0 ∧ c' = 0) ∧ r' ≤ most + 1 ∧ (boxesL ws').count .lag = lg' ∧ lg' ≤ room ∧ Bag H4 b bl ∧ But b H H4 := by
          intro g H4 hg s4 v7
          refine ⟨v7, some v, some (nV lo), some (nV hi'), us ++ [v], ws ++ [w0], r + hi', c + lo, lg + g, l - lo, ?_, s4 _ _ e3, q2'.kt (Same.kt s4), q3.app hS, endsT_app q4 hE, by omega, ?_, ?_, fun z => by omega, by omega, ?_, ?_, hB3.same s4, k3.trans (But.of s4)⟩
          · have e1 : (l : Int) - lo = ((l - lo : Nat) : Int) := by omega
            rw [e1]; rfl
          · rw [List.length_append]; simp only [List.length_cons, List.length_nil]; omega
          · intro _; rw [List.length_append]; simp only [List.length_cons, List.length_nil]; omega
          · rw [lagL_app, q10, hg]
          · rcases hlag with z | ⟨z, y⟩ <;> omega
        obtain ⟨bx, box, rfl | rfl⟩ := hS
        · obtain ⟨a8, rfl, hbx⟩ := hW3
          obtain ⟨rest, hhd⟩ := hbx.hd
          refine ⟨_, rfl, _, rfl, a8, _, _, _, rfl, rfl, hhd, atI_zero, _, rfl, a8, _, _, _, rfl, rfl, hhd, atI_zero, rfl, _, rfl, ?_⟩
          refine ite2 (fun z => absurd (of_decide_eq_true z) bx.word_nt) (fun _ => ?_)
          obtain ⟨g, hg, hk⟩ : ∃ g : Nat, lagN (.box bx) = g ∧ ((if inV (V.str "lag") [V.str bx.word, V.str ""] = true then 1 else 0 : Int) = (g : Int)) := by
            cases bx with
            | lag => exact ⟨1, by decide +kernel, by decide +kernel⟩
            | _ => exact ⟨0, by rfl, by rfl⟩
          refine ⟨by show 2 ≤ sizeLine; decide, fun p hp => ⟨p, _, rfl, .inr (SqT.of upd_same), rfl, rfl, .inr ⟨_, rfl, _, _, rfl, rfl, ?_⟩⟩⟩
          have := fin g _ hg (Same.new (o := .tup [V.str bx.word, V.str ""]) hp) (some (V.int (0 + i)))
          rw [← hk] at this
          exact this
        · obtain ⟨a8, u, rfl, hh, a9, rfl, hbx⟩ := hW3
          obtain ⟨rest, hhd⟩ := hbx.hd
          refine ⟨_, rfl, _, rfl, a8, _, _, _, rfl, rfl, hh, atI_zero, _, rfl, a8, _, _, _, rfl, rfl, hh, atI_zero, rfl, _, rfl, ?_⟩
          refine ite2 (fun _ => ?_) (fun z => absurd (decide_eq_true rfl) z)
          obtain ⟨g, hg, hk⟩ : ∃ g : Nat, lagN (.trn (.box bx)) = g ∧ ((if inV (V.str "lag") [V.str "turned", V.str bx.word] = true then 1 else 0 : Int) = (g : Int)) := by
            cases bx with
            | lag => exact ⟨1, by decide +kernel, by decide +kernel⟩
            | _ => exact ⟨0, by rfl, by rfl⟩
          refine ⟨_, rfl, a8, _, _, _, rfl, rfl, hh, atI_one, a9, _, _, _, rfl, rfl, hhd, atI_zero, by show 2 ≤ sizeLine; decide, fun p hp => ⟨p, _, rfl, .inr (SqT.of upd_same), rfl, rfl, .inr ⟨_, rfl, _, _, rfl, rfl, ?_⟩⟩⟩
          have := fin g _ hg (Same.new (o := .tup [V.str "turned", V.str bx.word]) hp) (some (V.int (0 + i)))
          rw [← hk] at this
          exact this
      · have hr : r + 2 ≤ most + 1 := by
          have z := of_decide_eq_true ht2
          injection z with z
          have := (q8 (by omega)).1
          omega
        clear ht ht2
        have hl1 := of_decide_eq_true hp
        refine ⟨_, rfl, _, rfl, _, rfl, _, _, rfl, rfl, _, rfl, b, bl, (room : Int) - lg, (l : Int), rfl, hB1, by omega, fun t w0 lo hi' v H2 hT hW hS hE hlo hle hhi hlag hB2 k2 => ?_⟩
        refine ⟨t, _, rfl, hT, rfl, _, _, rfl, _, _, rfl, _, _, rfl, rfl, ?_⟩
        have q1' : H2 a = some (.lst us) := k2 _ _ q1 nb
        refine ⟨_, rfl, .inl ⟨rfl, us, SqL.of q1'⟩, _, rfl, a, us, v, rfl, rfl, q1', by omega, ?_⟩
        have e3 := upd_same (H := H2) (a := a) (o := .lst (us ++ [v]))
        have kU2 : But a H2 (upd H2 a (.lst (us ++ [v]))) := But.upd
        have kT2 : KT K H2 (upd H2 a (.lst (us ++ [v]))) := kU2.ktL q1'
        have hB3 : Bag (upd H2 a (.lst (us ++ [v]))) b bl := bU hB2
        have k3 : But b H (upd H2 a (.lst (us ++ [v]))) := kU (k1.trans k2)
        have q2' := ((q2.kt (hB1.kt k2)).kt kT2).app (hW.kt kT2)
        have hW3 := hW.kt kT2
        clear kU2 hT hW
        generalize upd H2 a (.lst (us ++ [v])) = H3 at e3 kT2 hB3 k3 q2' hW3 ⊢
        refine ⟨_, rfl, _, rfl, _, _, rfl, rfl, _, rfl, _, rfl, _, _, rfl, rfl, _, _, rfl, ?_⟩
        have fin : ∀ (g : Nat) H4, lagN w0 = g → Same H3 H4 → ∀ v7, ∃ v7' v8 v9 v10 us' ws', ∃ (r' c' lg' l' : Nat), ([some (.ref b), some (V.int ((l : Int) - lo)), some (nV most), some (nV room), some (.ref a), some (V.int ((r : Int) + hi')), some (V.int ((lg : Int) + g)), v7, some v, some (nV lo), some (nV hi')] : St) = [some (.ref b), some (nV l'), some (nV most), some (nV room), some (.ref a), some (nV r'), some (nV lg'), v7', v8, v9, v10] ∧ H4 a = some (.lst us') ∧ WrAll K H4 ws' us' ∧ Smalls ws' ∧ endsT ws' = some (c', r') ∧ c' + l' = left ∧ ws'.length ≤ c' ∧ (1 ≤ i + 1 → 1 ≤ ws'.length) ∧ (i + 1 = 0 → r' = 0 ∧ c' = 0) ∧ r' ≤ most + 1 ∧ (boxesL ws').count .lag = lg' ∧ lg' ≤ room ∧ Bag H4 b bl ∧ But b H H4 := by
          intro g H4 hg s4 v7
          refine ⟨v7, some v, some (nV lo), some (nV hi'), us ++ [v], ws ++ [w0], r + hi', c + lo, lg + g, l - lo, ?_, s4 _ _ e3, q2'.kt (Same.kt s4), q3.app hS, endsT_app q4 hE, by omega, ?_, ?_, fun z => by omega, by omega, ?_, ?_, hB3.same s4, k3.trans (But.of s4)⟩
          · have e1 : (l : Int) - lo = ((l - lo : Nat) : Int) := by omega
            rw [e1]; rfl
          · rw [List.length_append]; simp only [List.length_cons, List.length_nil]; omega
          · intro _; rw [List.length_append]; simp only [List.length_cons, List.length_nil]; omega
          · rw [lagL_app, q10, hg]
          · rcases hlag with z | ⟨z, y⟩ <;> omega
        obtain ⟨bx, box, rfl | rfl⟩ := hS
        · obtain ⟨a8, rfl, hbx⟩ := hW3
          obtain ⟨rest, hhd⟩ := hbx.hd
          refine ⟨_, rfl, _, rfl, a8, _, _, _, rfl, rfl, hhd, atI_zero, _, rfl, a8, _, _, _, rfl, rfl, hhd, atI_zero, rfl, _, rfl, ?_⟩
          refine ite2 (fun z => absurd (of_decide_eq_true z) bx.word_nt) (fun _ => ?_)
          obtain ⟨g, hg, hk⟩ : ∃ g : Nat, lagN (.box bx) = g ∧ ((if inV (V.str "lag") [V.str bx.word, V.str ""] = true then 1 else 0 : Int) = (g : Int)) := by
            cases bx with
            | lag => exact ⟨1, by decide +kernel, by decide +kernel⟩
            | _ => exact ⟨0, by rfl, by rfl⟩
          refine ⟨by show 2 ≤ sizeLine; decide, fun p hp => ⟨p, _, rfl, .inr (SqT.of upd_same), rfl, rfl, .inr ⟨_, rfl, _, _, rfl, rfl, ?_⟩⟩⟩
          have := fin g _ hg (Same.new (o := .tup [V.str bx.word, V.str ""]) hp) (some (V.int (0 + i)))
          rw [← hk] at this
          exact this
        · obtain ⟨a8, u, rfl, hh, a9, rfl, hbx⟩ := hW3
          obtain ⟨rest, hhd⟩ := hbx.hd
          refine ⟨_, rfl, _, rfl, a8, _, _, _, rfl, rfl, hh, atI_zero, _, rfl, a8, _, _, _, rfl, rfl, hh, atI_zero, rfl, _, rfl, ?_⟩
          refine ite2 (fun _ => ?_) (fun z => absurd (decide_eq_true rfl) z)
          obtain ⟨g, hg, hk⟩ : ∃ g : Nat, lagN (.trn (.box bx)) = g ∧ ((if inV (V.str "lag") [V.str "turned", V.str bx.word] = true then 1 else 0 : Int) = (g : Int)) := by
            cases bx with
            | lag => exact ⟨1, by decide +kernel, by decide +kernel⟩
            | _ => exact ⟨0, by rfl, by rfl⟩
          refine ⟨_, rfl, a8, _, _, _, rfl, rfl, hh, atI_one, a9, _, _, _, rfl, rfl, hhd, atI_zero, by show 2 ≤ sizeLine; decide, fun p hp => ⟨p, _, rfl, .inr (SqT.of upd_same), rfl, rfl, .inr ⟨_, rfl, _, _, rfl, rfl, ?_⟩⟩⟩
          have := fin g _ hg (Same.new (o := .tup [V.str "turned", V.str bx.word]) hp) (some (V.int (0 + i)))
          rw [← hk] at this
          exact this
      · have i1 : 1 ≤ i := ip (.inr fun z => ht2 (by subst z; rfl))
        exact ⟨_, _, _, _, us, ws, r, c, lg, l, rfl, q1, q2, q3, q4, q5, q6, fun _ => q7 i1, fun z => by omega, q9, q10, q11, hB1, k1⟩
      · refine iteF ?_
        have i1 : 1 ≤ i := ip (.inl fun z => hp (decide_eq_true (by omega)))
        exact ⟨_, _, _, _, us, ws, r, c, lg, l, rfl, q1, q2, q3, q4, q5, q6, fun _ => q7 i1, fun z => by omega, q9, q10, q11, hB1, k1⟩
    · rintro σ H1 ⟨v7, v8, v9, v10, us, ws, r, c, lg, l, rfl, q1, q2, q3, q4, q5, q6, q7, q8, q9, q10, q11, hB1, k1⟩
      have hl := q2.len
      refine ⟨_, rfl, by show 2 ≤ sizeLine; decide, fun p1 hp1 => ⟨by show 1 ≤ sizeLine; decide, fun p2 hp2 => ⟨_, rfl, p2, (l : Int), _, rfl, rfl, upd_same, by omega, by omega, ?_, fun p3 hp3 => ?_⟩⟩⟩
      · show 1 * (l : Int).toNat ≤ sizeLine
        have : (20 : Nat) ≤ sizeLine := by decide
        omega
      have s1 := Same.new (o := .tup [V.str "copy", .int 0]) hp1
      have s2 := Same.new (o := .lst [V.ref p1]) hp2
      have s3 := Same.new (o := .lst (List.replicate (l : Int).toNat [V.ref p1]).flatten) hp3
      have eR : (List.replicate (l : Int).toNat [V.ref p1]).flatten = List.replicate l (V.ref p1) := by rw [Int.toNat_natCast]; exact flat_one l _
      have e1 := s3 _ _ (s2 _ _ (upd_same (H := H1) (a := p1) (o := .tup [V.str "copy", .int 0])))
      have e3 := upd_same (H := upd (upd H1 p1 (.tup [V.str "copy", .int 0])) p2 (.lst [V.ref p1])) (a := p3) (o := .lst (List.replicate (l : Int).toNat [V.ref p1]).flatten)
      have s13 := s1.trans (s2.trans s3)
      generalize upd (upd (upd H1 p1 (.tup [V.str "copy", .int 0])) p2 (.lst [V.ref p1])) p3 (.lst (List.replicate (l : Int).toNat [V.ref p1]).flatten) = H3 at e1 e3 s13 ⊢
      rw [eR] at e3
      refine ⟨a, p3, us, _, rfl, rfl, s13 _ _ q1, e3, ?_, fun p4 hp4 => ⟨_, rfl, _, rfl, by show 3 ≤ sizeLine; decide, fun q hq => ?_⟩⟩
      · rw [List.length_replicate]
        have : (20 : Nat) ≤ sizeLine := by decide
        omega
      have s4 := s13.trans ((Same.new (o := .lst (us ++ List.replicate l (V.ref p1))) hp4).trans (Same.new (o := .tup [V.ref p4, nV r, nV lg]) hq))
      have e4 := Same.new (o := .tup [V.ref p4, nV r, nV lg]) hq _ _ (upd_same (H := H3) (a := p4) (o := .lst (us ++ List.replicate l (V.ref p1))))
      have e5 := (Same.new (o := .tup [V.ref p4, nV r, nV lg]) hq) _ _ ((Same.new (o := .lst (us ++ List.replicate l (V.ref p1))) hp4) _ _ e1)
      obtain ⟨a1, a2, a3, a4⟩ := pad (K := K) (w := .box (.copy 0)) ⟨p1, rfl, SqT.of e5⟩ ⟨.copy 0, by unfold Bx.ok; decide, .inl rfl⟩ (by rw [Wt.ends]; rfl) (by rfl) l (q2.kt (Same.kt s4)) q3 q4
      refine k q p4 _ _ r lg _ (SqT.of upd_same) e4 a1 a2 (by rw [a3, q5]) ?_ ?_ q9 (by rw [a4, q10]) q11 (hB1.same s4) (k1.trans (But.of s4))
      · rw [List.length_append]; have := q7 (by omega); omega
      · rw [List.length_append, List.length_replicate]; omega
end
end L2.Lw

set_option Elab.async false
set_option linter.all false
set_option maxRecDepth 100000
namespace L2.Lw
open PySem PySem.Spec PyProof.Rows
/-! ### the law's wirings of layers -/
/-- layers, one behind the other, from a ends to b -/
def Ch (ws : List Wt) (a b : Nat) : Prop := (ws = [] ∧ a = b) ∨ ∃ es, endsL ws = some es ∧ thnE es = some (a, b)
theorem thnE_app : ∀ {es : List (Nat × Nat)} {a b c : Nat}, thnE es = some (a, b) → thnE (es ++ [(b, c)]) = some (a, c)
  | [], _, _, _, h => by cases h
  | [e], a, b, c, h => by
    have h2 : e = (a, b) := by rw [thnE] at h; injection h
    subst h2
    show thnE [(a, b), (b, c)] = _
    rw [thnE, if_pos rfl, thnE]; rfl
  | e :: f :: es, a, b, c, h => by
    rw [thnE] at h
    by_cases z : e.2 = f.1
    · rw [if_pos z] at h
      cases q : thnE (f :: es) with
      | none => rw [q] at h; cases h
      | some g =>
        rw [q] at h
        have h2 : (e.1, g.2) = (a, b) := by injection h
        obtain ⟨g1, g2⟩ := g
        have r := thnE_app (c := c) q
        have e1 : e.1 = a := congrArg Prod.fst h2
        have e2 : g2 = b := congrArg Prod.snd h2
        subst e2
        show thnE (e :: f :: (es ++ [(g2, c)])) = _
        rw [thnE, if_pos z]
        rw [List.cons_append] at r
        rw [r]
        show some (e.1, c) = _
        rw [e1]
    · rw [if_neg z] at h; cases h
theorem Ch.app {ws : List Wt} {w : Wt} {a b c : Nat} (h : Ch ws a b) (q : w.ends = some (b, c)) : Ch (ws ++ [w]) a c := by
  rcases h with ⟨rfl, rfl⟩ | ⟨es, h1, h2⟩
  · exact .inr ⟨[(a, c)], by rw [List.nil_append, endsL_cons, q, endsL_nil]; rfl, by rw [thnE]⟩
  · exact .inr ⟨_, endsL_app h1 q, thnE_app h2⟩
/-- a layer -/
def Lyr (w : Wt) : Prop := ∃ xs, w = .bes xs ∧ Smalls xs ∧ 1 ≤ xs.length ∧ xs.length ≤ 12
theorem bes_ends {xs : List Wt} {a b : Nat} (h : endsT xs = some (a, b)) (ha : a ≤ 12) (hb : b ≤ 12) : (Wt.bes xs).ends = some (a, b) := by
  unfold endsT at h
  rw [Wt.ends]
  cases hl : endsL xs with
  | none => rw [hl] at h; cases h
  | some es =>
    rw [hl] at h
    have h2 : besE es = (a, b) := by injection h
    show few (some (besE es)) = _
    rw [h2]
    show (if a ≤ 12 ∧ b ≤ 12 then some (a, b) else none) = _
    rw [if_pos ⟨ha, hb⟩]
theorem boxes_bes (xs : List Wt) : (Wt.bes xs).boxes = boxesL xs := by rw [Wt.boxes]
theorem Smalls.boxes : ∀ {xs : List Wt}, Smalls xs → (boxesL xs).length = xs.length
  | [], _ => by rw [boxesL_nil]; rfl
  | w :: xs, h => by
    rw [boxesL_cons, List.length_append, Smalls.boxes (xs := xs) fun x hx => h x (by simp [hx]), List.length_cons]
    obtain ⟨b, _, rfl | rfl⟩ := h w (by simp)
    · rw [Wt.boxes]; simp; omega
    · rw [Wt.boxes, Wt.boxes]; simp; omega
theorem Smalls.ok : ∀ {xs : List Wt}, Smalls xs → ∀ b ∈ boxesL xs, b.ok
  | [], _, b, hb => by rw [boxesL_nil] at hb; cases hb
  | w :: xs, h, b, hb => by
    rw [boxesL_cons] at hb
    rcases List.mem_append.mp hb with z | z
    · obtain ⟨c, hc, rfl | rfl⟩ := h w (by simp)
      · rw [Wt.boxes] at z; rw [List.mem_singleton.mp z]; exact hc
      · rw [Wt.boxes, Wt.boxes] at z; rw [List.mem_singleton.mp z]; exact hc
    · exact Smalls.ok (xs := xs) (fun x hx => h x (by simp [hx])) b z
def spWiring (K : PySem.W.Frag) : Sp := fun vs H Q _ => ∃ (b bl : Addr) (left most room : Nat), vs = [.ref b, nV left, nV most, nV room] ∧ Bag H b bl ∧ left ≤ most ∧ 1 ≤ most ∧ most ≤ 4 ∧
  ∀ (t : Addr) (v : V) (ws : List Wt) (right rm : Nat) H', SqT K H' t [v, nV right, nV rm] → Wr K H' (.thn ws) v → (∀ w ∈ ws, Lyr w) → (Wt.thn ws).ends = some (left, right) → 1 ≤ ws.length → ws.length ≤ 6 → (boxesL ws).length ≤ 24 → right ≤ most + 1 → (boxesL ws).count .lag + rm = room → Bag H' b bl → But b H H' → Q (.ref t) H'
theorem wires {K : PySem.W.Frag} {H : Hp} {v : V} (hw : Wr K H (.box .wire) v) : ∀ l : Nat, WrAll K H (List.replicate l (.box .wire)) (List.replicate l v) ∧ Smalls (List.replicate l (.box .wire)) ∧ endsT (List.replicate l (.box .wire)) = some (l, l) ∧ (boxesL (List.replicate l (Wt.box .wire))).count .lag = 0
  | 0 => ⟨by rw [List.replicate_zero, List.replicate_zero, WrAll], fun _ z => (by cases z), by unfold endsT; rw [List.replicate_zero, endsL_nil]; rfl, by rw [List.replicate_zero, boxesL_nil]; rfl⟩
  | l + 1 => by
    obtain ⟨a1, a2, a3, a4⟩ := wires hw l
    rw [List.replicate_succ', List.replicate_succ']
    exact ⟨a1.app hw, a2.app ⟨.wire, trivial, .inl rfl⟩, endsT_app a3 (by rw [Wt.ends]; rfl), by rw [lagL_app, a4]; rfl⟩
section
variable {P : Program} {w : World} {K : PySem.W.Frag} {mg : Str → Option Value} {base : Heap}
theorem sc_law_wiring : FnScope ["_law_bag_here", "_law_left", "_law_most", "_law_few", "_law_layers", "_law_room", "_law_k", "_law_extra", "_law_boxes_", "_law_lags_"] ["_law_bag_here", "_law_left", "_law_most", "_law_few"] (defScope s_law_wiring) := ⟨rfl, rfl, rfl, by decide +kernel, rfl, by decide +kernel, by decide +kernel⟩
set_option maxHeartbeats 1000000 in
theorem ok_wiring (d : Dfn K mg "_law_wiring" s_law_wiring ["_law_bag_here", "_law_left", "_law_most", "_law_few"]) (T : Bi mg) (c_law_pull : Cal P w K mg base "_law_pull" 1 ["_law_bag_here", "_law_many"] spPull (Pla K ["_law_bag_here", "_law_many"])) (c_law_layer : Cal P w K mg base "_law_layer" 4 ["_law_bag_here", "_law_left", "_law_most", "_law_room"] (spLayer K) (Pla K ["_law_bag_here", "_law_left", "_law_most", "_law_room"])) : Cal P w K mg base "_law_wiring" 5 ["_law_bag_here", "_law_left", "_law_most", "_law_few"] (spWiring K) (Pla K ["_law_bag_here", "_law_left", "_law_most", "_law_few"]) := by
  refine d.ok sc_law_wiring (fun vs H Q E h => ?_) (fun f cdv A outer s H vs Q E hr h => ?_)
  · obtain ⟨b, bl, left, most, room, rfl, _⟩ := h; rfl
  · obtain ⟨b, bl, left, most, fewN, rfl, hB, h1, h2, h3, k⟩ := h
    have nd := sc_law_wiring.nd
    refine ⟨_, (unqZ (Q_pss_cons (Q_ps_par (i := 4) (j := 5) (by rfl) nd rfl rfl (by decide) rfl rfl (Q_pa_kx rfl (Q_pe_lst Q_pa_nil) (Q_pa_kx rfl (Q_pv 3) Q_pa_nil)) (by rfl))
      (Q_pss_cons (Q_ps_for PassesOwn.never rfl (Q_pi_range1 (by rfl) T.range (Q_pa_kx rfl (Q_pe_op op_add Q_pe_int (Q_pcall c_law_pull (hr.mono (by omega)) (Q_pa_kx rfl (Q_pv 0) (Q_pa_kx rfl Q_pe_int Q_pa_nil)))) Q_pa_nil)) (pg_name (i := 6) nd rfl (by first | exact Or.inl rfl | exact Or.inr rfl)) (Q_pss_cons (Q_ps_set (i := 7) nd rfl (by first | exact Or.inl rfl | exact Or.inr rfl) (Q_pe_ix (ixL K) (Q_pe_lst (Q_pa_kx rfl (Q_pe_tup (Q_pa_kx rfl Q_pe_str (Q_pa_kx rfl Q_pe_int Q_pa_nil))) (Q_pa_kx rfl (Q_pe_tup (Q_pa_kx rfl Q_pe_str (Q_pa_kx rfl (Q_pe_tup (Q_pa_kx rfl Q_pe_str (Q_pa_kx rfl Q_pe_int Q_pa_nil))) Q_pa_nil))) Q_pa_nil))) (Q_pcall c_law_pull (hr.mono (by omega)) (Q_pa_kx rfl (Q_pv 0) (Q_pa_kx rfl Q_pe_int Q_pa_nil))) (fun _ _ => rfl)))
      (Q_pss_cons (Q_ps_if (Q_PW_pt (Q_pw_or (Q_pt_cmpR op_eq (Q_pv 1) Q_pe_int (nomark _)) (Q_pw_or1 (Q_PW_pt (Q_pw_and (Q_pt_cmpR op_lt (Q_pv 1) (Q_pv 2) (nomark _)) (Q_pw_and1 (Q_pt_cmpR op_eq (Q_pcall c_law_pull (hr.mono (by omega)) (Q_pa_kx rfl (Q_pv 0) (Q_pa_kx rfl Q_pe_int Q_pa_nil))) Q_pe_int (nomark _)))))))) (Q_pss_cons (Q_ps_expr (Q_pe_bm PySem.F.plainAttrs_list PySem.F.slot_list_append PySem.F.type_list_append mt_append (Q_pv 4) (Q_pa_kx rfl (Q_pe_tup (Q_pa_kx rfl Q_pe_str (Q_pa_kx rfl (Q_pe_op (catV K) (Q_pe_op (repV K) (Q_pe_tup (Q_pa_kx rfl (Q_pe_tup (Q_pa_kx rfl Q_pe_str Q_pa_nil)) Q_pa_nil)) (Q_pv 1)) (Q_pe_tup (Q_pa_kx rfl (Q_pv 7) Q_pa_nil))) Q_pa_nil))) Q_pa_nil)))
      (Q_pss_one (Q_ps_set (i := 1) nd rfl (by first | exact Or.inl rfl | exact Or.inr rfl) (Q_pe_op op_add (Q_pv 1) Q_pe_int)))) Q_pss_nil)
      (Q_pss_cons (Q_ps_asg (Q_pcall c_law_layer (hr.mono (by omega)) (Q_pa_kx rfl (Q_pv 0) (Q_pa_kx rfl (Q_pv 1) (Q_pa_kx rfl (Q_pv 2) (Q_pa_kx rfl (Q_pv 5) Q_pa_nil))))) (pg_tup rfl (pgs_cons (pg_name (i := 8) nd rfl (by first | exact Or.inl rfl | exact Or.inr rfl)) (pgs_cons (pg_name (i := 1) nd rfl (by first | exact Or.inl rfl | exact Or.inr rfl)) (pgs_cons (pg_name (i := 9) nd rfl (by first | exact Or.inl rfl | exact Or.inr rfl)) pgs_nil)))))
      (Q_pss_cons (Q_ps_set (i := 5) nd rfl (by first | exact Or.inl rfl | exact Or.inr rfl) (Q_pe_op op_sub (Q_pv 5) (Q_pv 9)))
      (Q_pss_one (Q_ps_expr (Q_pe_bm PySem.F.plainAttrs_list PySem.F.slot_list_append PySem.F.type_list_append mt_append (Q_pv 4) (Q_pa_kx rfl (Q_pe_tup (Q_pa_kx rfl Q_pe_str (Q_pa_kx rfl (Q_pe_callTy (tupO K) (by rfl) T.tuple (by decide +kernel) (Q_pa_kx rfl (Q_pv 8) Q_pa_nil)) Q_pa_nil))) Q_pa_nil)))))))))
      (Q_pss_one (Q_ps_ret (Q_pe_tup (Q_pa_kx rfl (Q_pe_tup (Q_pa_kx rfl Q_pe_str (Q_pa_kx rfl (Q_pe_callTy (tupO K) (by rfl) T.tuple (by decide +kernel) (Q_pa_kx rfl (Q_pv 4) Q_pa_nil)) Q_pa_nil))) (Q_pa_kx rfl (Q_pv 1) (Q_pa_kx rfl (Q_pv 5) Q_pa_nil))))))))), ?_⟩
    have sz : (20 : Nat) ≤ sizeLine := by decide
    refine ⟨by decide, fun a ha => ⟨_, rfl, _, _, rfl, ?_⟩⟩
    have nb := hB.fresh ha
    have nl := hB.freshL ha
    have kU : ∀ {H1 : Hp} {o : HO}, But b H H1 → But b H (upd H1 a o) := fun k1 c o e n => by rw [upd_ne (ne_of_none e ha)]; exact k1 c o e n
    have bU : ∀ {H1 : Hp} {o : HO}, Bag H1 b bl → Bag (upd H1 a o) b bl := fun h => h.but But.upd (Ne.symm nb) (Ne.symm nl)
    refine ⟨_, rfl, b, bl, 3, rfl, bU hB, by decide, by decide, fun z H0 z0 z1 hB0 k0 => ⟨_, _, rfl, rfl, 1 + z, rfl, by omega, by omega, ?_⟩⟩
    have e0 : H0 a = some (.lst []) := k0 _ _ upd_same nb
    refine for_range (lo := 0) (n := (1 + z).toNat) (fun i σ H' => ∃ v6 v7 v8 v9 us ws, ∃ (l rm : Nat), σ = [some (.ref b), some (nV l), some (nV most), some (nV fewN), some (.ref a), some (nV rm), v6, v7, v8, v9] ∧ H' a = some (.lst us) ∧ WrAll K H' ws us ∧ (∀ w ∈ ws, Lyr w) ∧ Ch ws left l ∧ l ≤ most + 1 ∧ (i = 0 → l ≤ most) ∧ ws.length ≤ 2 * i ∧ (1 ≤ i → 1 ≤ ws.length) ∧ (boxesL ws).length ≤ 8 * i ∧ (boxesL ws).count .lag + rm = fewN ∧ Bag H' b bl ∧ But b H H') ?_ ?_ ?_
    · exact ⟨none, none, none, none, [], [], left, fewN, rfl, e0, by rw [WrAll], fun _ z => (by cases z), .inl ⟨rfl, rfl⟩, by omega, fun _ => h1, by simp, by omega, by rw [boxesL_nil]; simp, by rw [boxesL_nil]; simp, hB0, (kU (But.refl _ _)).trans k0⟩
    · rintro i σ H1 hi ⟨v6, v7, v8, v9, us, ws, l, rm, rfl, q1, q2, q3, q4, q5, q5', q6, q7, q8, q9, hB1, k1⟩
      have hi3 : i ≤ 2 := by omega
      refine ⟨by show 2 ≤ sizeLine; decide, fun p1 hp1 => ⟨by show 2 ≤ sizeLine; decide, fun p2 hp2 => ⟨by show 2 ≤ sizeLine; decide, fun p3 hp3 => ⟨by show 2 ≤ sizeLine; decide, fun p4 hp4 => ?_⟩⟩⟩⟩
      have s1 := Same.new (o := .tup [V.str "sum", .int 0]) hp1
      have s2 := Same.new (o := .tup [V.str "copy", .int 0]) hp2
      have s3 := Same.new (o := .tup [V.str "turned", .ref p2]) hp3
      have s4 := Same.new (o := .lst [V.ref p1, .ref p3]) hp4
      have d1 := s4 _ _ (s3 _ _ (s2 _ _ (upd_same (H := H1) (a := p1) (o := .tup [V.str "sum", .int 0]))))
      have d2 := s4 _ _ (s3 _ _ (upd_same (H := upd H1 p1 (.tup [V.str "sum", .int 0])) (a := p2) (o := .tup [V.str "copy", .int 0])))
      have d3 := s4 _ _ (upd_same (H := upd (upd H1 p1 (.tup [V.str "sum", .int 0])) p2 (.tup [V.str "copy", .int 0])) (a := p3) (o := .tup [V.str "turned", .ref p2]))
      have d4 := upd_same (H := upd (upd (upd H1 p1 (.tup [V.str "sum", .int 0])) p2 (.tup [V.str "copy", .int 0])) p3 (.tup [V.str "turned", .ref p2])) (a := p4) (o := .lst [V.ref p1, .ref p3])
      have s14 := s1.trans (s2.trans (s3.trans s4))
      have np := (hB1.same (s1.trans (s2.trans s3))).fresh hp4
      generalize upd (upd (upd (upd H1 p1 (.tup [V.str "sum", .int 0])) p2 (.tup [V.str "copy", .int 0])) p3 (.tup [V.str "turned", .ref p2])) p4 (.lst [V.ref p1, .ref p3]) = Hs at d1 d2 d3 d4 s14 ⊢
      have hBs := hB1.same s14
      refine ⟨_, rfl, b, bl, 2, rfl, hBs, by decide, by decide, fun zx HA zx0 zx1 BA ks => ?_⟩
      have ksT : KT K Hs HA := hBs.kt ks
      have eA : HA a = some (.lst us) := ks _ _ (s14 _ _ q1) nb
      have wA : WrAll K HA ws us := (q2.kt (Same.kt s14)).kt ksT
      have kA : But b H HA := k1.trans ((But.of s14).trans ks)
      obtain ⟨x, w0, hx, xA, sw, ew, lw⟩ : ∃ (x : V) (w0 : Wt), atI [V.ref p1, V.ref p3] zx = some x ∧ Wr K HA w0 x ∧ Small w0 ∧ w0.ends = some (0, 1) ∧ lagN w0 = 0 := by
        rcases (show zx = 0 ∨ zx = 1 by omega) with rfl | rfl
        · exact ⟨_, .box (.sum 0), atI_zero, ⟨p1, rfl, ksT _ _ (SqT.of d1)⟩, ⟨.sum 0, by unfold Bx.ok; decide, .inl rfl⟩, by rw [Wt.ends]; rfl, by rfl⟩
        · exact ⟨_, .trn (.box (.copy 0)), atI_one, ⟨p3, .ref p2, rfl, ksT _ _ (SqT.of d3), p2, rfl, ksT _ _ (SqT.of d2)⟩, ⟨.copy 0, by unfold Bx.ok; decide, .inr rfl⟩, by rw [Wt.ends, Wt.ends]; rfl, by rfl⟩
      refine ⟨p4, _, zx, x, rfl, rfl, ks.seq (SqL.of d4) np, hx, ?_⟩
      refine ⟨_, rfl, rfl, _, rfl, ite2 (fun hz => ?_) (fun hz => ⟨_, rfl, _, rfl, _, _, rfl, rfl, _, rfl, ite2 (fun hlt => ⟨_, rfl, b, bl, 5, rfl, BA, by decide, by decide, fun z2 HB y0 y1 BB kB => ⟨rfl, _, rfl, ite2 (fun _ => ?_) (fun _ => ?_)⟩⟩) (fun hlt => ?_)⟩)⟩
      · first | refine iteT ?_ | skip
        have hl0' : l = 0 := by
          have z := of_decide_eq_true hz
          injection z with z
          omega
        refine ⟨_, rfl, .inl ⟨rfl, us, SqL.of eA⟩, ?_⟩
        have hl0 := wA.len
        refine ⟨by show 1 ≤ sizeLine; decide, fun q1 hq1 => ⟨by show 1 ≤ sizeLine; decide, fun q2 hq2 => ⟨_, rfl, q2, .ref q1, (l : Int), rfl, rfl, SqT.of upd_same, by omega, by omega, fun r1 H3 s3 f3 => ⟨_, rfl, by show 1 ≤ sizeLine; decide, fun o4 ho4 => ⟨r1, o4, _, _, rfl, rfl, Same.tup (Same.new ho4) f3, SqT.of upd_same, ?_, fun r2 H5 s5 f5 => ⟨by show 2 ≤ sizeLine; decide, fun q6 hq6 => ⟨a, us, .ref q6, rfl, rfl, ?_, by omega, ?_⟩⟩⟩⟩⟩⟩⟩
        · rw [List.length_replicate]; simp only [List.length_cons, List.length_nil]; omega
        · exact Same.new hq6 _ _ (s5 _ _ (Same.new ho4 _ _ (s3 _ _ (Same.new hq2 _ _ (Same.new hq1 _ _ eA)))))
        have sA := (Same.new (o := .tup [V.str "wire"]) hq1).trans ((Same.new (o := .tup [V.ref q1]) hq2).trans (s3.trans ((Same.new (o := .tup [x]) ho4).trans (s5.trans (Same.new (o := .tup [V.str "beside", .ref r2]) hq6)))))
        have fw : SqT K (upd H5 q6 (.tup [V.str "beside", .ref r2])) q1 [V.str "wire"] := SqT.of (Same.new hq6 _ _ (s5 _ _ (Same.new ho4 _ _ (s3 _ _ (Same.new hq2 _ _ upd_same)))))
        have fr : SqT K (upd H5 q6 (.tup [V.str "beside", .ref r2])) r2 (List.replicate l (V.ref q1) ++ [x]) := Same.tup (Same.new hq6) f5
        have f6 := upd_same (H := H5) (a := q6) (o := .tup [V.str "beside", .ref r2])
        have e6 := sA _ _ eA
        have B6 := BA.same sA
        have k6 := kA.trans (But.of sA)
        have w6 := wA.kt (Same.kt sA)
        have x6 := xA.kt (Same.kt sA)
        generalize upd H5 q6 (.tup [V.str "beside", .ref r2]) = H6 at fw fr f6 e6 B6 k6 w6 x6 ⊢
        have kT6 : KT K H6 (upd H6 a (.lst (us ++ [V.ref q6]))) := But.ktL But.upd e6
        obtain ⟨aw, as, ae, al⟩ := wires (K := K) (H := H6) (v := .ref q1) ⟨q1, rfl, fw⟩ l
        have aw2 := aw.app x6
        have hS0 : Smalls (List.replicate l (.box .wire) ++ [w0]) := as.app sw
        have hE0 := endsT_app ae ew
        have w2 := (w6.kt kT6).app (w := .bes (List.replicate l (.box .wire) ++ [w0])) (v := .ref q6) ⟨q6, r2, _, rfl, kT6 _ _ (SqT.of f6), kT6 _ _ fr, aw2.kt kT6⟩
        have e2 := upd_same (H := H6) (a := a) (o := .lst (us ++ [V.ref q6]))
        have B2 := bU (o := .lst (us ++ [V.ref q6])) B6
        have k2 := kU (o := .lst (us ++ [V.ref q6])) k6
        have c2 : Ch (ws ++ [.bes (List.replicate l (.box .wire) ++ [w0])]) left (l + 1) := q4.app (bes_ends hE0 (by omega) (by omega))
        have hb0 := hS0.boxes
        have hlen0 : (List.replicate l (Wt.box .wire) ++ [w0]).length = l + 1 := by rw [List.length_append, List.length_replicate, List.length_singleton]
        have y2 : ∀ w ∈ ws ++ [.bes (List.replicate l (.box .wire) ++ [w0])], Lyr w := by
          intro w hw
          rcases List.mem_append.mp hw with z | z
          · exact q3 w z
          · rw [List.mem_singleton.mp z]; exact ⟨_, rfl, hS0, by omega, by omega⟩
        have n2 : (ws ++ [Wt.bes (List.replicate l (.box .wire) ++ [w0])]).length ≤ 2 * i + 1 := by rw [List.length_append, List.length_singleton]; omega
        have b2 : (boxesL (ws ++ [Wt.bes (List.replicate l (.box .wire) ++ [w0])])).length + (l + 1) ≤ 8 * i + 8 := by rw [boxesL_app, List.length_append, boxesL_cons, boxesL_nil, List.append_nil, boxes_bes]; omega
        have m2 : (boxesL (ws ++ [Wt.bes (List.replicate l (.box .wire) ++ [w0])])).count .lag + rm = fewN := by
          rw [boxesL_app, List.count_append, boxesL_cons, boxesL_nil, List.append_nil, boxes_bes, lagL_app, al, lw]; exact q9
        have g1 : 1 ≤ l + 1 := by omega
        have g2 : l + 1 ≤ most + 1 := by omega
        generalize upd H6 a (.lst (us ++ [V.ref q6])) = H2 at w2 e2 B2 k2 ⊢
        clear aw aw2 w6 x6 fw fr f6 e6 B6 k6 kT6 sA s5 f5 s3 f3 wA xA eA BA kA hq1 hq2 ho4 hq6
        refine ⟨_, rfl, _, _, rfl, rfl, ?_⟩
        refine ⟨_, rfl, _, rfl, _, rfl, _, rfl, b, bl, (l + 1), most, rm, rfl, B2, g1, g2, h2, h3, fun t la vs xs r lg H4 hT hla hW hS hE x1 x2 x3 x4 x5 hB4 k4 => ?_⟩
        refine ⟨t, _, rfl, hT, rfl, _, _, rfl, _, _, rfl, _, _, rfl, rfl, ?_⟩
        refine ⟨_, rfl, _, rfl, _, _, rfl, rfl, ?_⟩
        have e4 : H4 a = some (.lst ((us ++ [V.ref q6]))) := k4 _ _ e2 nb
        have hl2 := w2.len
        refine ⟨_, rfl, .inl ⟨rfl, _, SqL.of e4⟩, _, rfl, la, vs, rfl, .inl ⟨SqL.of hla, fun q1 hq1 => ⟨by show 2 ≤ sizeLine; decide, fun q2 hq2 => ⟨a, _, .ref q2, rfl, rfl, Same.new hq2 _ _ (Same.new hq1 _ _ e4), by omega, ?_⟩⟩⟩⟩
        have s5 : Same H4 (upd (upd H4 q1 (.tup vs)) q2 (.tup [V.str "beside", .ref q1])) := (Same.new hq1).trans (Same.new hq2)
        have f1 := Same.new (o := .tup [V.str "beside", .ref q1]) hq2 _ _ (upd_same (H := H4) (a := q1) (o := .tup vs))
        have f2 := upd_same (H := upd H4 q1 (.tup vs)) (a := q2) (o := .tup [V.str "beside", .ref q1])
        have e5 := s5 _ _ e4
        have B5 := hB4.same s5
        have k5 : But b H (upd (upd H4 q1 (.tup vs)) q2 (.tup [V.str "beside", .ref q1])) := k2.trans (k4.trans (But.of s5))
        have w5 := (w2.kt (B2.kt k4)).kt (Same.kt s5)
        have v5 := hW.kt (Same.kt s5)
        generalize upd (upd H4 q1 (.tup vs)) q2 (.tup [V.str "beside", .ref q1]) = H5 at f1 f2 e5 B5 k5 w5 v5 ⊢
        have kT : KT K H5 (upd H5 a (.lst ((us ++ [V.ref q6]) ++ [V.ref q2]))) := But.ktL But.upd e5
        have hwl : Wr K (upd H5 a (.lst ((us ++ [V.ref q6]) ++ [V.ref q2]))) (.bes xs) (.ref q2) := ⟨q2, q1, vs, rfl, kT _ _ (SqT.of f2), kT _ _ (SqT.of f1), v5.kt kT⟩
        have hbx := hS.boxes
        refine ⟨some (V.int (0 + (i : Int))), some x, some (V.ref la), some (nV lg), (us ++ [V.ref q6]) ++ [V.ref q2], (ws ++ [.bes (List.replicate l (.box .wire) ++ [w0])]) ++ [.bes xs], r, rm - lg, ?_, upd_same, (w5.kt kT).app hwl, ?_, c2.app (bes_ends hE (by omega) (by omega)), by omega, fun z => by omega, ?_, ?_, ?_, ?_, bU B5, kU k5⟩
        · have ee : (rm : Int) - lg = ((rm - lg : Nat) : Int) := by omega
          show [some (V.ref b), some (nV r), some (nV most), some (nV fewN), some (V.ref a), some (V.int ((rm : Int) - lg)), some (V.int (0 + (i : Int))), some x, some (V.ref la), some (nV lg)] = _
          rw [ee]; rfl
        · intro w hw
          rcases List.mem_append.mp hw with z | z
          · exact y2 w z
          · rw [List.mem_singleton.mp z]; exact ⟨xs, rfl, hS, x1, by omega⟩
        · rw [List.length_append, List.length_singleton]; omega
        · intro _; rw [List.length_append, List.length_singleton]; omega
        · rw [boxesL_app, List.length_append, boxesL_cons, boxesL_nil, List.append_nil, boxes_bes]; omega
        · rw [boxesL_app, List.count_append, boxesL_cons, boxesL_nil, List.append_nil, boxes_bes, x4]; omega
      · first | refine iteT ?_ | skip
        have hlt' := of_decide_eq_true hlt
        replace eA : HB a = some (.lst us) := kB _ _ eA nb
        replace wA := wA.kt (BA.kt kB)
        replace xA := xA.kt (BA.kt kB)
        replace kA := kA.trans kB
        replace BA := BB
        refine ⟨_, rfl, .inl ⟨rfl, us, SqL.of eA⟩, ?_⟩
        have hl0 := wA.len
        refine ⟨by show 1 ≤ sizeLine; decide, fun q1 hq1 => ⟨by show 1 ≤ sizeLine; decide, fun q2 hq2 => ⟨_, rfl, q2, .ref q1, (l : Int), rfl, rfl, SqT.of upd_same, by omega, by omega, fun r1 H3 s3 f3 => ⟨_, rfl, by show 1 ≤ sizeLine; decide, fun o4 ho4 => ⟨r1, o4, _, _, rfl, rfl, Same.tup (Same.new ho4) f3, SqT.of upd_same, ?_, fun r2 H5 s5 f5 => ⟨by show 2 ≤ sizeLine; decide, fun q6 hq6 => ⟨a, us, .ref q6, rfl, rfl, ?_, by omega, ?_⟩⟩⟩⟩⟩⟩⟩
        · rw [List.length_replicate]; simp only [List.length_cons, List.length_nil]; omega
        · exact Same.new hq6 _ _ (s5 _ _ (Same.new ho4 _ _ (s3 _ _ (Same.new hq2 _ _ (Same.new hq1 _ _ eA)))))
        have sA := (Same.new (o := .tup [V.str "wire"]) hq1).trans ((Same.new (o := .tup [V.ref q1]) hq2).trans (s3.trans ((Same.new (o := .tup [x]) ho4).trans (s5.trans (Same.new (o := .tup [V.str "beside", .ref r2]) hq6)))))
        have fw : SqT K (upd H5 q6 (.tup [V.str "beside", .ref r2])) q1 [V.str "wire"] := SqT.of (Same.new hq6 _ _ (s5 _ _ (Same.new ho4 _ _ (s3 _ _ (Same.new hq2 _ _ upd_same)))))
        have fr : SqT K (upd H5 q6 (.tup [V.str "beside", .ref r2])) r2 (List.replicate l (V.ref q1) ++ [x]) := Same.tup (Same.new hq6) f5
        have f6 := upd_same (H := H5) (a := q6) (o := .tup [V.str "beside", .ref r2])
        have e6 := sA _ _ eA
        have B6 := BA.same sA
        have k6 := kA.trans (But.of sA)
        have w6 := wA.kt (Same.kt sA)
        have x6 := xA.kt (Same.kt sA)
        generalize upd H5 q6 (.tup [V.str "beside", .ref r2]) = H6 at fw fr f6 e6 B6 k6 w6 x6 ⊢
        have kT6 : KT K H6 (upd H6 a (.lst (us ++ [V.ref q6]))) := But.ktL But.upd e6
        obtain ⟨aw, as, ae, al⟩ := wires (K := K) (H := H6) (v := .ref q1) ⟨q1, rfl, fw⟩ l
        have aw2 := aw.app x6
        have hS0 : Smalls (List.replicate l (.box .wire) ++ [w0]) := as.app sw
        have hE0 := endsT_app ae ew
        have w2 := (w6.kt kT6).app (w := .bes (List.replicate l (.box .wire) ++ [w0])) (v := .ref q6) ⟨q6, r2, _, rfl, kT6 _ _ (SqT.of f6), kT6 _ _ fr, aw2.kt kT6⟩
        have e2 := upd_same (H := H6) (a := a) (o := .lst (us ++ [V.ref q6]))
        have B2 := bU (o := .lst (us ++ [V.ref q6])) B6
        have k2 := kU (o := .lst (us ++ [V.ref q6])) k6
        have c2 : Ch (ws ++ [.bes (List.replicate l (.box .wire) ++ [w0])]) left (l + 1) := q4.app (bes_ends hE0 (by omega) (by omega))
        have hb0 := hS0.boxes
        have hlen0 : (List.replicate l (Wt.box .wire) ++ [w0]).length = l + 1 := by rw [List.length_append, List.length_replicate, List.length_singleton]
        have y2 : ∀ w ∈ ws ++ [.bes (List.replicate l (.box .wire) ++ [w0])], Lyr w := by
          intro w hw
          rcases List.mem_append.mp hw with z | z
          · exact q3 w z
          · rw [List.mem_singleton.mp z]; exact ⟨_, rfl, hS0, by omega, by omega⟩
        have n2 : (ws ++ [Wt.bes (List.replicate l (.box .wire) ++ [w0])]).length ≤ 2 * i + 1 := by rw [List.length_append, List.length_singleton]; omega
        have b2 : (boxesL (ws ++ [Wt.bes (List.replicate l (.box .wire) ++ [w0])])).length + (l + 1) ≤ 8 * i + 8 := by rw [boxesL_app, List.length_append, boxesL_cons, boxesL_nil, List.append_nil, boxes_bes]; omega
        have m2 : (boxesL (ws ++ [Wt.bes (List.replicate l (.box .wire) ++ [w0])])).count .lag + rm = fewN := by
          rw [boxesL_app, List.count_append, boxesL_cons, boxesL_nil, List.append_nil, boxes_bes, lagL_app, al, lw]; exact q9
        have g1 : 1 ≤ l + 1 := by omega
        have g2 : l + 1 ≤ most + 1 := by omega
        generalize upd H6 a (.lst (us ++ [V.ref q6])) = H2 at w2 e2 B2 k2 ⊢
        clear aw aw2 w6 x6 fw fr f6 e6 B6 k6 kT6 sA s5 f5 s3 f3 wA xA eA BA kA hq1 hq2 ho4 hq6
        refine ⟨_, rfl, _, _, rfl, rfl, ?_⟩
        refine ⟨_, rfl, _, rfl, _, rfl, _, rfl, b, bl, (l + 1), most, rm, rfl, B2, g1, g2, h2, h3, fun t la vs xs r lg H4 hT hla hW hS hE x1 x2 x3 x4 x5 hB4 k4 => ?_⟩
        refine ⟨t, _, rfl, hT, rfl, _, _, rfl, _, _, rfl, _, _, rfl, rfl, ?_⟩
        refine ⟨_, rfl, _, rfl, _, _, rfl, rfl, ?_⟩
        have e4 : H4 a = some (.lst ((us ++ [V.ref q6]))) := k4 _ _ e2 nb
        have hl2 := w2.len
        refine ⟨_, rfl, .inl ⟨rfl, _, SqL.of e4⟩, _, rfl, la, vs, rfl, .inl ⟨SqL.of hla, fun q1 hq1 => ⟨by show 2 ≤ sizeLine; decide, fun q2 hq2 => ⟨a, _, .ref q2, rfl, rfl, Same.new hq2 _ _ (Same.new hq1 _ _ e4), by omega, ?_⟩⟩⟩⟩
        have s5 : Same H4 (upd (upd H4 q1 (.tup vs)) q2 (.tup [V.str "beside", .ref q1])) := (Same.new hq1).trans (Same.new hq2)
        have f1 := Same.new (o := .tup [V.str "beside", .ref q1]) hq2 _ _ (upd_same (H := H4) (a := q1) (o := .tup vs))
        have f2 := upd_same (H := upd H4 q1 (.tup vs)) (a := q2) (o := .tup [V.str "beside", .ref q1])
        have e5 := s5 _ _ e4
        have B5 := hB4.same s5
        have k5 : But b H (upd (upd H4 q1 (.tup vs)) q2 (.tup [V.str "beside", .ref q1])) := k2.trans (k4.trans (But.of s5))
        have w5 := (w2.kt (B2.kt k4)).kt (Same.kt s5)
        have v5 := hW.kt (Same.kt s5)
        generalize upd (upd H4 q1 (.tup vs)) q2 (.tup [V.str "beside", .ref q1]) = H5 at f1 f2 e5 B5 k5 w5 v5 ⊢
        have kT : KT K H5 (upd H5 a (.lst ((us ++ [V.ref q6]) ++ [V.ref q2]))) := But.ktL But.upd e5
        have hwl : Wr K (upd H5 a (.lst ((us ++ [V.ref q6]) ++ [V.ref q2]))) (.bes xs) (.ref q2) := ⟨q2, q1, vs, rfl, kT _ _ (SqT.of f2), kT _ _ (SqT.of f1), v5.kt kT⟩
        have hbx := hS.boxes
        refine ⟨some (V.int (0 + (i : Int))), some x, some (V.ref la), some (nV lg), (us ++ [V.ref q6]) ++ [V.ref q2], (ws ++ [.bes (List.replicate l (.box .wire) ++ [w0])]) ++ [.bes xs], r, rm - lg, ?_, upd_same, (w5.kt kT).app hwl, ?_, c2.app (bes_ends hE (by omega) (by omega)), by omega, fun z => by omega, ?_, ?_, ?_, ?_, bU B5, kU k5⟩
        · have ee : (rm : Int) - lg = ((rm - lg : Nat) : Int) := by omega
          show [some (V.ref b), some (nV r), some (nV most), some (nV fewN), some (V.ref a), some (V.int ((rm : Int) - lg)), some (V.int (0 + (i : Int))), some x, some (V.ref la), some (nV lg)] = _
          rw [ee]; rfl
        · intro w hw
          rcases List.mem_append.mp hw with z | z
          · exact y2 w z
          · rw [List.mem_singleton.mp z]; exact ⟨xs, rfl, hS, x1, by omega⟩
        · rw [List.length_append, List.length_singleton]; omega
        · intro _; rw [List.length_append, List.length_singleton]; omega
        · rw [boxesL_app, List.length_append, boxesL_cons, boxesL_nil, List.append_nil, boxes_bes]; omega
        · rw [boxesL_app, List.count_append, boxesL_cons, boxesL_nil, List.append_nil, boxes_bes, x4]; omega
      · first | refine iteF ?_ | skip
        have hz' : l ≠ 0 := fun y => hz (by subst y; rfl)
        replace eA : HB a = some (.lst us) := kB _ _ eA nb
        replace wA := wA.kt (BA.kt kB)
        replace kA := kA.trans kB
        replace BA := BB
        have e2 := eA
        have w2 := wA
        have B2 := BA
        have k2 := kA
        have y2 := q3
        have c2 := q4
        have n2 : ws.length ≤ 2 * i + 1 := by omega
        have b2 : (boxesL ws).length + l ≤ 8 * i + 8 := by omega
        have m2 := q9
        have g1 : 1 ≤ l := by omega
        have g2 : l ≤ most + 1 := q5
        refine ⟨_, rfl, _, rfl, _, rfl, _, rfl, b, bl, l, most, rm, rfl, B2, g1, g2, h2, h3, fun t la vs xs r lg H4 hT hla hW hS hE x1 x2 x3 x4 x5 hB4 k4 => ?_⟩
        refine ⟨t, _, rfl, hT, rfl, _, _, rfl, _, _, rfl, _, _, rfl, rfl, ?_⟩
        refine ⟨_, rfl, _, rfl, _, _, rfl, rfl, ?_⟩
        have e4 : H4 a = some (.lst (us)) := k4 _ _ e2 nb
        have hl2 := w2.len
        refine ⟨_, rfl, .inl ⟨rfl, _, SqL.of e4⟩, _, rfl, la, vs, rfl, .inl ⟨SqL.of hla, fun q1 hq1 => ⟨by show 2 ≤ sizeLine; decide, fun q2 hq2 => ⟨a, _, .ref q2, rfl, rfl, Same.new hq2 _ _ (Same.new hq1 _ _ e4), by omega, ?_⟩⟩⟩⟩
        have s5 : Same H4 (upd (upd H4 q1 (.tup vs)) q2 (.tup [V.str "beside", .ref q1])) := (Same.new hq1).trans (Same.new hq2)
        have f1 := Same.new (o := .tup [V.str "beside", .ref q1]) hq2 _ _ (upd_same (H := H4) (a := q1) (o := .tup vs))
        have f2 := upd_same (H := upd H4 q1 (.tup vs)) (a := q2) (o := .tup [V.str "beside", .ref q1])
        have e5 := s5 _ _ e4
        have B5 := hB4.same s5
        have k5 : But b H (upd (upd H4 q1 (.tup vs)) q2 (.tup [V.str "beside", .ref q1])) := k2.trans (k4.trans (But.of s5))
        have w5 := (w2.kt (B2.kt k4)).kt (Same.kt s5)
        have v5 := hW.kt (Same.kt s5)
        generalize upd (upd H4 q1 (.tup vs)) q2 (.tup [V.str "beside", .ref q1]) = H5 at f1 f2 e5 B5 k5 w5 v5 ⊢
        have kT : KT K H5 (upd H5 a (.lst (us ++ [V.ref q2]))) := But.ktL But.upd e5
        have hwl : Wr K (upd H5 a (.lst (us ++ [V.ref q2]))) (.bes xs) (.ref q2) := ⟨q2, q1, vs, rfl, kT _ _ (SqT.of f2), kT _ _ (SqT.of f1), v5.kt kT⟩
        have hbx := hS.boxes
        refine ⟨some (V.int (0 + (i : Int))), some x, some (V.ref la), some (nV lg), us ++ [V.ref q2], ws ++ [.bes xs], r, rm - lg, ?_, upd_same, (w5.kt kT).app hwl, ?_, c2.app (bes_ends hE (by omega) (by omega)), by omega, fun z => by omega, ?_, ?_, ?_, ?_, bU B5, kU k5⟩
        · have ee : (rm : Int) - lg = ((rm - lg : Nat) : Int) := by omega
          show [some (V.ref b), some (nV r), some (nV most), some (nV fewN), some (V.ref a), some (V.int ((rm : Int) - lg)), some (V.int (0 + (i : Int))), some x, some (V.ref la), some (nV lg)] = _
          rw [ee]; rfl
        · intro w hw
          rcases List.mem_append.mp hw with z | z
          · exact y2 w z
          · rw [List.mem_singleton.mp z]; exact ⟨xs, rfl, hS, x1, by omega⟩
        · rw [List.length_append, List.length_singleton]; omega
        · intro _; rw [List.length_append, List.length_singleton]; omega
        · rw [boxesL_app, List.length_append, boxesL_cons, boxesL_nil, List.append_nil, boxes_bes]; omega
        · rw [boxesL_app, List.count_append, boxesL_cons, boxesL_nil, List.append_nil, boxes_bes, x4]; omega
      · first | refine iteF ?_ | skip
        have hz' : l ≠ 0 := fun y => hz (by subst y; rfl)
        have e2 := eA
        have w2 := wA
        have B2 := BA
        have k2 := kA
        have y2 := q3
        have c2 := q4
        have n2 : ws.length ≤ 2 * i + 1 := by omega
        have b2 : (boxesL ws).length + l ≤ 8 * i + 8 := by omega
        have m2 := q9
        have g1 : 1 ≤ l := by omega
        have g2 : l ≤ most + 1 := q5
        refine ⟨_, rfl, _, rfl, _, rfl, _, rfl, b, bl, l, most, rm, rfl, B2, g1, g2, h2, h3, fun t la vs xs r lg H4 hT hla hW hS hE x1 x2 x3 x4 x5 hB4 k4 => ?_⟩
        refine ⟨t, _, rfl, hT, rfl, _, _, rfl, _, _, rfl, _, _, rfl, rfl, ?_⟩
        refine ⟨_, rfl, _, rfl, _, _, rfl, rfl, ?_⟩
        have e4 : H4 a = some (.lst (us)) := k4 _ _ e2 nb
        have hl2 := w2.len
        refine ⟨_, rfl, .inl ⟨rfl, _, SqL.of e4⟩, _, rfl, la, vs, rfl, .inl ⟨SqL.of hla, fun q1 hq1 => ⟨by show 2 ≤ sizeLine; decide, fun q2 hq2 => ⟨a, _, .ref q2, rfl, rfl, Same.new hq2 _ _ (Same.new hq1 _ _ e4), by omega, ?_⟩⟩⟩⟩
        have s5 : Same H4 (upd (upd H4 q1 (.tup vs)) q2 (.tup [V.str "beside", .ref q1])) := (Same.new hq1).trans (Same.new hq2)
        have f1 := Same.new (o := .tup [V.str "beside", .ref q1]) hq2 _ _ (upd_same (H := H4) (a := q1) (o := .tup vs))
        have f2 := upd_same (H := upd H4 q1 (.tup vs)) (a := q2) (o := .tup [V.str "beside", .ref q1])
        have e5 := s5 _ _ e4
        have B5 := hB4.same s5
        have k5 : But b H (upd (upd H4 q1 (.tup vs)) q2 (.tup [V.str "beside", .ref q1])) := k2.trans (k4.trans (But.of s5))
        have w5 := (w2.kt (B2.kt k4)).kt (Same.kt s5)
        have v5 := hW.kt (Same.kt s5)
        generalize upd (upd H4 q1 (.tup vs)) q2 (.tup [V.str "beside", .ref q1]) = H5 at f1 f2 e5 B5 k5 w5 v5 ⊢
        have kT : KT K H5 (upd H5 a (.lst (us ++ [V.ref q2]))) := But.ktL But.upd e5
        have hwl : Wr K (upd H5 a (.lst (us ++ [V.ref q2]))) (.bes xs) (.ref q2) := ⟨q2, q1, vs, rfl, kT _ _ (SqT.of f2), kT _ _ (SqT.of f1), v5.kt kT⟩
        have hbx := hS.boxes
        refine ⟨some (V.int (0 + (i : Int))), some x, some (V.ref la), some (nV lg), us ++ [V.ref q2], ws ++ [.bes xs], r, rm - lg, ?_, upd_same, (w5.kt kT).app hwl, ?_, c2.app (bes_ends hE (by omega) (by omega)), by omega, fun z => by omega, ?_, ?_, ?_, ?_, bU B5, kU k5⟩
        · have ee : (rm : Int) - lg = ((rm - lg : Nat) : Int) := by omega
          show [some (V.ref b), some (nV r), some (nV most), some (nV fewN), some (V.ref a), some (V.int ((rm : Int) - lg)), some (V.int (0 + (i : Int))), some x, some (V.ref la), some (nV lg)] = _
          rw [ee]; rfl
        · intro w hw
          rcases List.mem_append.mp hw with z | z
          · exact y2 w z
          · rw [List.mem_singleton.mp z]; exact ⟨xs, rfl, hS, x1, by omega⟩
        · rw [List.length_append, List.length_singleton]; omega
        · intro _; rw [List.length_append, List.length_singleton]; omega
        · rw [boxesL_app, List.length_append, boxesL_cons, boxesL_nil, List.append_nil, boxes_bes]; omega
        · rw [boxesL_app, List.count_append, boxesL_cons, boxesL_nil, List.append_nil, boxes_bes, x4]; omega
    · rintro σ H1 ⟨v6, v7, v8, v9, us, ws, l, rm, rfl, q1, q2, q3, q4, q5, q5', q6, q7, q8, q9, hB1, k1⟩
      have hw1 := q7 (by omega)
      refine ⟨_, rfl, a, us, rfl, .inl ⟨SqL.of q1, fun p1 hp1 => ⟨by show 2 ≤ sizeLine; decide, fun p2 hp2 => ⟨_, rfl, _, rfl, by show 3 ≤ sizeLine; decide, fun q hq => ?_⟩⟩⟩⟩
      have s1 := (Same.new (o := .tup us) hp1).trans ((Same.new (o := .tup [V.str "then", .ref p1]) hp2).trans (Same.new (o := .tup [V.ref p2, nV l, nV rm]) hq))
      refine k q (.ref p2) ws l rm _ (SqT.of upd_same) ⟨p2, p1, us, rfl, SqT.of (Same.new hq _ _ upd_same), SqT.of (Same.new hq _ _ (Same.new hp2 _ _ upd_same)), q2.kt (Same.kt s1)⟩ q3 ?_ hw1 (by omega) (by omega) q5 q9 (hB1.same s1) (k1.trans (But.of s1))
      rcases q4 with ⟨rfl, _⟩ | ⟨es, h4, h5⟩
      · simp at hw1
      · rw [Wt.ends, h4]
        show few (thnE es) = _
        rw [h5]
        show (if left ≤ 12 ∧ l ≤ 12 then some (left, l) else none) = _
        rw [if_pos ⟨by omega, by omega⟩]
end
end L2.Lw

set_option Elab.async false
set_option linter.all false
set_option maxRecDepth 100000
namespace L2.Lw
open PySem PySem.Spec PyProof.Rows
/-! ### any wiring of the law's -/
/-- how much is in a wiring -/
structure Ws (D M G : Nat) (w : Wt) : Prop where
  j : w.okj
  b : ∀ x ∈ w.boxes, x.ok
  d : w.deep ≤ D
  m : w.boxes.length ≤ M
  g : w.boxes.count .lag ≤ G
theorem Ws.mono {D M G D' M' G' : Nat} {w : Wt} (h : Ws D M G w) (h1 : D ≤ D') (h2 : M ≤ M') (h3 : G ≤ G') : Ws D' M' G' w :=
  ⟨h.j, h.b, by have := h.d; omega, by have := h.m; omega, by have := h.g; omega⟩
theorem Ws.trn {D M G : Nat} {w : Wt} (h : Ws D M G w) : Ws (D + 1) M G (.trn w) :=
  ⟨by rw [Wt.okj]; exact h.j, by rw [Wt.boxes]; exact h.b, by rw [deep_trn]; have := h.d; omega, by rw [Wt.boxes]; exact h.m, by rw [Wt.boxes]; exact h.g⟩
theorem Ws.rng {D M G : Nat} {w : Wt} (h : Ws D M G w) : Ws (D + 1) M G (.rng w) :=
  ⟨by rw [Wt.okj]; exact h.j, by rw [Wt.boxes]; exact h.b, by rw [deep_rng]; have := h.d; omega, by rw [Wt.boxes]; exact h.m, by rw [Wt.boxes]; exact h.g⟩
/-- how much is in some wirings -/
structure WsL (D M G : Nat) (ws : List Wt) : Prop where
  j : okjL ws
  b : ∀ x ∈ boxesL ws, x.ok
  d : ∀ w ∈ ws, w.deep ≤ D
  m : (boxesL ws).length ≤ M
  g : (boxesL ws).count .lag ≤ G
theorem deepL_le {D : Nat} : ∀ {ws : List Wt}, (∀ w ∈ ws, w.deep ≤ D) → deepL ws ≤ D
  | [], _ => by rw [deepL]; omega
  | w :: ws, h => by rw [deepL]; exact Nat.max_le.mpr ⟨h w (by simp), deepL_le fun x hx => h x (by simp [hx])⟩
theorem WsL.two {D M G M2 G2 : Nat} {a b : Wt} (h : Ws D M G a) (q : Ws D M2 G2 b) : WsL D (M + M2) (G + G2) [a, b] := by
  have e : boxesL [a, b] = a.boxes ++ b.boxes := by rw [boxesL_cons, boxesL_cons, boxesL_nil, List.append_nil]
  refine ⟨by rw [okjL, okjL, okjL]; exact ⟨h.j, q.j, trivial⟩, ?_, ?_, ?_, ?_⟩
  · rw [e]; intro x hx
    rcases List.mem_append.mp hx with z | z
    · exact h.b x z
    · exact q.b x z
  · intro w hw
    rcases List.mem_cons.mp hw with rfl | z
    · exact h.d
    · rw [List.mem_singleton.mp z]; exact q.d
  · rw [e, List.length_append]; have := h.m; have := q.m; omega
  · rw [e, List.count_append]; have := h.g; have := q.g; omega
theorem WsL.thn {D M G : Nat} {ws : List Wt} (h : WsL D M G ws) (l1 : 1 ≤ ws.length) (l2 : ws.length ≤ 12) : Ws (D + 1) M G (.thn ws) :=
  ⟨by rw [Wt.okj]; exact ⟨l1, l2, h.j⟩, by rw [Wt.boxes]; exact h.b, by rw [deep_thn]; have := deepL_le h.d; omega, by rw [Wt.boxes]; exact h.m, by rw [Wt.boxes]; exact h.g⟩
theorem WsL.bes {D M G : Nat} {ws : List Wt} (h : WsL D M G ws) (l1 : 1 ≤ ws.length) (l2 : ws.length ≤ 12) : Ws (D + 1) M G (.bes ws) :=
  ⟨by rw [Wt.okj]; exact ⟨l1, l2, h.j⟩, by rw [Wt.boxes]; exact h.b, by rw [deep_bes]; have := deepL_le h.d; omega, by rw [Wt.boxes]; exact h.m, by rw [Wt.boxes]; exact h.g⟩
theorem Small.okj {w : Wt} (h : Small w) : w.okj := by
  obtain ⟨b, _, rfl | rfl⟩ := h
  · rw [Wt.okj]; trivial
  · rw [Wt.okj, Wt.okj]; trivial
theorem Small.deep {w : Wt} (h : Small w) : w.deep ≤ 2 := by
  obtain ⟨b, _, rfl | rfl⟩ := h
  · rw [Wt.deep]; omega
  · rw [Wt.deep, Wt.deep]; omega
theorem Smalls.ws {xs : List Wt} (h : Smalls xs) : WsL 2 xs.length ((boxesL xs).count .lag) xs :=
  ⟨okjL_of _ fun w hw => (h w hw).okj, h.ok, fun w hw => (h w hw).deep, Nat.le_of_eq h.boxes, Nat.le_refl _⟩
theorem Lyr.okj {w : Wt} (h : Lyr w) : w.okj := by
  obtain ⟨xs, rfl, h1, h2, h3⟩ := h; exact (h1.ws.bes h2 h3).j
theorem Lyr.deep {w : Wt} (h : Lyr w) : w.deep ≤ 3 := by
  obtain ⟨xs, rfl, h1, h2, h3⟩ := h; exact (h1.ws.bes h2 h3).d
theorem Lyr.oks : ∀ {ws : List Wt}, (∀ w ∈ ws, Lyr w) → ∀ b ∈ boxesL ws, b.ok
  | [], _, b, hb => by rw [boxesL_nil] at hb; cases hb
  | w :: ws, h, b, hb => by
    rw [boxesL_cons] at hb
    rcases List.mem_append.mp hb with z | z
    · obtain ⟨xs, rfl, h1, h2, h3⟩ := h w (by simp)
      exact (h1.ws.bes h2 h3).b b z
    · exact Lyr.oks (ws := ws) (fun x hx => h x (by simp [hx])) b z
/-- what the law's layers make -/
structure Fnd (fw : Nat) (ws : List Wt) (l r rm : Nat) : Prop where
  y : ∀ w ∈ ws, Lyr w
  e : (Wt.thn ws).ends = some (l, r)
  n1 : 1 ≤ ws.length
  n2 : ws.length ≤ 6
  m : (boxesL ws).length ≤ 24
  g : (boxesL ws).count .lag + rm = fw
  hl : l ≤ 4
  hr : r ≤ 5
theorem Fnd.ws {fw l r rm : Nat} {ws : List Wt} (h : Fnd fw ws l r rm) : Ws 4 24 (fw - rm) (.thn ws) :=
  WsL.thn ⟨okjL_of _ fun w hw => (h.y w hw).okj, Lyr.oks h.y, fun w hw => (h.y w hw).deep, h.m, by have := h.g; omega⟩ h.n1 (by have := h.n2; omega)
theorem thn_two {a b : Wt} {x y z : Nat} (h : a.ends = some (x, y)) (q : b.ends = some (y, z)) (hx : x ≤ 12) (hz : z ≤ 12) : (Wt.thn [a, b]).ends = some (x, z) := by
  rw [Wt.ends, endsL_cons, endsL_cons, endsL_nil, h, q]
  show few (thnE [(x, y), (y, z)]) = _
  rw [thnE, if_pos rfl, thnE]
  show (if x ≤ 12 ∧ z ≤ 12 then some (x, z) else none) = _
  rw [if_pos ⟨hx, hz⟩]
/-- a wiring that the law draws, no more than fw lags in it -/
structure AnyW (fw : Nat) (w : Wt) (l r : Nat) : Prop where
  s : Ws 7 29 fw w
  e : w.ends = some (l, r)
  hl : l ≤ 5
  hr : r ≤ 5
def LaI (K : PySem.W.Frag) (b bl : Addr) (most fw : Nat) (H : Hp) (σ : St) (H' : Hp) : Prop := ∃ (l r rm : Nat) (kd : Int) (v : V) (ws : List Wt) (v9 v10 v11 v12 : Option V), σ = [some (.ref b), some (nV most), some (nV fw), some (nV l), some v, some (nV r), some (nV rm), some (nV l), some (.int kd), v9, v10, v11, v12] ∧ Wr K H' (.thn ws) v ∧ Fnd fw ws l r rm ∧ Bag H' b bl ∧ But b H H'
def spAnyW (K : PySem.W.Frag) : Sp := fun vs H Q _ => ∃ (b bl : Addr) (most room : Nat), vs = [.ref b, nV most, nV room] ∧ Bag H b bl ∧ 1 ≤ most ∧ most ≤ 4 ∧
  ∀ (t : Addr) (v : V) (wt : Wt) (left right : Nat) H', SqT K H' t [v, nV left, nV right] → Wr K H' wt v → AnyW room wt left right → Bag H' b bl → But b H H' → Q (.ref t) H'
theorem But.free {H H1 : Hp} {b f : Addr} (k : But b H H1) (hfb : f ≠ b) (hf : H1 f = none) : H f = none := by
  cases e : H f with
  | none => rfl
  | some o => rw [k f o e hfb] at hf; cases hf
theorem RwsAt.app {K : PySem.W.Frag} {H : Hp} {us : List V} {l : List (List Nat)} {ns : List Nat} {q : Addr} (h : RwsAt K H us l) (e : SqT K H q (ns.map nV)) : RwsAt K H (us ++ [.ref q]) (l ++ [ns]) := by
  refine ⟨by rw [List.length_append, List.length_append, h.1]; rfl, fun i ms hi => ?_⟩
  by_cases c : i < l.length
  · rw [List.getElem?_append_left c] at hi
    obtain ⟨d, h1, h2⟩ := h.2 i ms hi
    exact ⟨d, by rw [List.getElem?_append_left (by rw [h.1]; exact c)]; exact h1, h2⟩
  · rw [List.getElem?_append_right (by omega)] at hi
    have z : i - l.length = 0 := by
      rcases Nat.eq_zero_or_pos (i - l.length) with y | y
      · exact y
      · rw [List.getElem?_eq_none (by simp; omega)] at hi; cases hi
    rw [z] at hi
    have hm : ns = ms := by simpa using hi
    subst hm
    exact ⟨q, by rw [List.getElem?_append_right (by rw [h.1]; omega), h.1, z]; rfl, e⟩
theorem RwsAt.ktM {K : PySem.W.Frag} {H H' : Hp} {us : List V} {l : List (List Nat)} (h : RwsAt K H us l) (k : KT K H H') : RwsAt K H' us l :=
  ⟨h.1, fun i ns e => let ⟨c, x, y⟩ := h.2 i ns e; ⟨c, x, k _ _ y⟩⟩
section
variable {P : Program} {w : World} {K : PySem.W.Frag} {mg : Str → Option Value} {base : Heap}
theorem sc_law_any_wiring : FnScope ["_law_bag_here", "_law_most", "_law_few", "_law_begin", "_law_found", "_law_right", "_law_room", "_law_left", "_law_kind", "_law_lagged", "_law_rows", "_law_k", "_law_j"] ["_law_bag_here", "_law_most", "_law_few"] (defScope s_law_any_wiring) := ⟨rfl, rfl, rfl, by decide +kernel, rfl, by decide +kernel, by decide +kernel⟩
set_option maxHeartbeats 1000000 in
theorem ok_anyw (d : Dfn K mg "_law_any_wiring" s_law_any_wiring ["_law_bag_here", "_law_most", "_law_few"]) (T : Bi mg) (c_law_pull : Cal P w K mg base "_law_pull" 1 ["_law_bag_here", "_law_many"] spPull (Pla K ["_law_bag_here", "_law_many"])) (c_law_wiring : Cal P w K mg base "_law_wiring" 5 ["_law_bag_here", "_law_left", "_law_most", "_law_few"] (spWiring K) (Pla K ["_law_bag_here", "_law_left", "_law_most", "_law_few"])) : Cal P w K mg base "_law_any_wiring" 6 ["_law_bag_here", "_law_most", "_law_few"] (spAnyW K) (Pla K ["_law_bag_here", "_law_most", "_law_few"]) := by
  refine d.ok sc_law_any_wiring (fun vs H Q E h => ?_) (fun f cdv A outer s H vs Q E hr h => ?_)
  · obtain ⟨b, bl, most, room, rfl, _⟩ := h; rfl
  · obtain ⟨b, bl, most, fewN, rfl, hB, h2, h3, k⟩ := h
    have nd := sc_law_any_wiring.nd
    refine ⟨_, (unqZ (Q_pss_cons (Q_ps_set (i := 3) nd rfl (by first | exact Or.inl rfl | exact Or.inr rfl) (Q_pcall c_law_pull (hr.mono (by omega)) (Q_pa_kx rfl (Q_pv 0) (Q_pa_kx rfl (Q_pe_op op_add (Q_pv 1) Q_pe_int) Q_pa_nil))))
      (Q_pss_cons (Q_ps_asg (Q_pcall c_law_wiring (hr.mono (by omega)) (Q_pa_kx rfl (Q_pv 0) (Q_pa_kx rfl (Q_pv 3) (Q_pa_kx rfl (Q_pv 1) (Q_pa_kx rfl (Q_pv 2) Q_pa_nil))))) (pg_tup rfl (pgs_cons (pg_name (i := 4) nd rfl (by first | exact Or.inl rfl | exact Or.inr rfl)) (pgs_cons (pg_name (i := 5) nd rfl (by first | exact Or.inl rfl | exact Or.inr rfl)) (pgs_cons (pg_name (i := 6) nd rfl (by first | exact Or.inl rfl | exact Or.inr rfl)) pgs_nil)))))
      (Q_pss_cons (Q_ps_set (i := 7) nd rfl (by first | exact Or.inl rfl | exact Or.inr rfl) (Q_pv 3))
      (Q_pss_cons (Q_ps_set (i := 8) nd rfl (by first | exact Or.inl rfl | exact Or.inr rfl) (Q_pcall c_law_pull (hr.mono (by omega)) (Q_pa_kx rfl (Q_pv 0) (Q_pa_kx rfl Q_pe_int Q_pa_nil))))
      (Q_pss_cons (Q_ps_cut (LaI K b bl most fewN H) (Q_ps_if (Q_PW_pt (Q_pw_and (Q_pt_cmpR op_eq (Q_pv 8) Q_pe_int (nomark _)) (Q_pw_and (Q_pt_cmpR op_gt (Q_pv 7) Q_pe_int (nomark _)) (Q_pw_and1 (Q_pt_cmpR op_gt (Q_pv 5) Q_pe_int (nomark _)))))) (Q_pss_one (Q_ps_ret (Q_pe_tup (Q_pa_kx rfl (Q_pe_tup (Q_pa_kx rfl Q_pe_str (Q_pa_kx rfl (Q_pv 4) Q_pa_nil))) (Q_pa_kx rfl (Q_pe_op op_sub (Q_pv 7) Q_pe_int) (Q_pa_kx rfl (Q_pe_op op_sub (Q_pv 5) Q_pe_int) Q_pa_nil)))))) Q_pss_nil))
      (Q_pss_cons (Q_ps_if (Q_pt_cmpR op_eq (Q_pv 8) Q_pe_int (nomark _)) (Q_pss_one (Q_ps_ret (Q_pe_tup (Q_pa_kx rfl (Q_pe_tup (Q_pa_kx rfl Q_pe_str (Q_pa_kx rfl (Q_pv 4) Q_pa_nil))) (Q_pa_kx rfl (Q_pv 5) (Q_pa_kx rfl (Q_pv 7) Q_pa_nil)))))) Q_pss_nil)
      (Q_pss_cons (Q_ps_cut (LaI K b bl most fewN H) (Q_ps_if (Q_PW_pt (Q_pw_and (Q_pt_cmpR op_eq (Q_pv 8) Q_pe_int (nomark _)) (Q_pw_and (Q_pt_cmpR op_gt (Q_pv 7) Q_pe_int (nomark _)) (Q_pw_and (Q_pt_cmpR op_gt (Q_pv 5) Q_pe_int (nomark _)) (Q_pw_and1 (Q_pt_cmpR op_gt (Q_pv 6) Q_pe_int (nomark _))))))) (Q_pss_cons (Q_ps_set (i := 9) nd rfl (by first | exact Or.inl rfl | exact Or.inr rfl) (Q_pe_tup (Q_pa_kx rfl Q_pe_str (Q_pa_kx rfl (Q_pe_tup (Q_pa_kx rfl (Q_pv 4) (Q_pa_kx rfl (Q_pe_tup (Q_pa_kx rfl Q_pe_str (Q_pa_kx rfl (Q_pe_op (catV K) (Q_pe_op (repV K) (Q_pe_tup (Q_pa_kx rfl (Q_pe_tup (Q_pa_kx rfl Q_pe_str Q_pa_nil)) Q_pa_nil)) (Q_pe_op op_sub (Q_pv 5) Q_pe_int)) (Q_pe_tup (Q_pa_kx rfl (Q_pe_tup (Q_pa_kx rfl Q_pe_str Q_pa_nil)) Q_pa_nil))) Q_pa_nil))) Q_pa_nil))) Q_pa_nil))))
      (Q_pss_one (Q_ps_ret (Q_pe_tup (Q_pa_kx rfl (Q_pe_tup (Q_pa_kx rfl Q_pe_str (Q_pa_kx rfl (Q_pv 9) Q_pa_nil))) (Q_pa_kx rfl (Q_pe_op op_sub (Q_pv 7) Q_pe_int) (Q_pa_kx rfl (Q_pe_op op_sub (Q_pv 5) Q_pe_int) Q_pa_nil))))))) Q_pss_nil))
      (Q_pss_cons (Q_ps_cut (LaI K b bl most fewN H) (Q_ps_if (Q_PW_pt (Q_pw_and (Q_pt_cmpR op_eq (Q_pv 8) Q_pe_int (nomark _)) (Q_pw_and1 (Q_pt_cmpR op_gt (Q_pv 5) Q_pe_int (nomark _))))) (Q_pss_cons (Q_ps_set (i := 10) nd rfl (by first | exact Or.inl rfl | exact Or.inr rfl) (Q_pe_callTy (tupO K) (by rfl) T.tuple (by decide +kernel) (Q_pa_kx rfl (Q_pe_lc (own := [("_law_j", 12)]) (g := _) (by rfl) nd (Q_pi_range1 (by rfl) T.range (Q_pa_kx rfl (Q_pe_op op_add Q_pe_int (Q_pcall c_law_pull (hr.mono (by omega)) (Q_pa_kx rfl (Q_pv 0) (Q_pa_kx rfl (Q_pv 1) Q_pa_nil)))) Q_pa_nil)) (blkOk_by (own := [("_law_j", 12)]) (N := ["_law_bag_here", "_law_most", "_law_few", "_law_begin", "_law_found", "_law_right", "_law_room", "_law_left", "_law_kind", "_law_lagged", "_law_rows", "_law_k", "_law_j"]) (sc := defScope s_law_any_wiring) (by decide +kernel)) (fun _ _ _ _ _ => (pg_name (i := 12) nd rfl (by first | exact Or.inl rfl | exact Or.inr rfl))) (fun _ _ _ _ _ => pts_nil) (fun _ _ _ _ _ => (Q_pe_callTy (tupO K) (by rfl) T.tuple (by decide +kernel) (Q_pa_kx rfl (Q_pe_lc (own := [("_law_k", 11)]) (g := _) (by rfl) nd (Q_pi_range1 (by rfl) T.range (Q_pa_kx rfl (Q_pv 5) Q_pa_nil)) (blkOk_by (own := [("_law_k", 11)]) (N := ["_law_bag_here", "_law_most", "_law_few", "_law_begin", "_law_found", "_law_right", "_law_room", "_law_left", "_law_kind", "_law_lagged", "_law_rows", "_law_k", "_law_j"]) (by kernel_rfl)) (fun _ _ _ _ _ => (pg_name (i := 11) nd rfl (by first | exact Or.inl rfl | exact Or.inr rfl))) (fun _ _ _ _ _ => pts_nil) (fun _ _ _ _ _ => (Q_pcall c_law_pull (hr.mono (by omega)) (Q_pa_kx rfl (Q_pv 0) (Q_pa_kx rfl Q_pe_int Q_pa_nil))))) Q_pa_nil)))) Q_pa_nil)))
      (Q_pss_one (Q_ps_ret (Q_pe_tup (Q_pa_kx rfl (Q_pe_tup (Q_pa_kx rfl Q_pe_str (Q_pa_kx rfl (Q_pe_tup (Q_pa_kx rfl (Q_pv 4) (Q_pa_kx rfl (Q_pe_tup (Q_pa_kx rfl Q_pe_str (Q_pa_kx rfl (Q_pv 10) Q_pa_nil))) Q_pa_nil))) Q_pa_nil))) (Q_pa_kx rfl (Q_pv 7) (Q_pa_kx rfl (Q_pe_callB (lenS K) (by rfl) T.len (by decide +kernel) (Q_pa_kx rfl (Q_pv 10) Q_pa_nil)) Q_pa_nil))))))) Q_pss_nil))
      (Q_pss_one (Q_ps_ret (Q_pe_tup (Q_pa_kx rfl (Q_pv 4) (Q_pa_kx rfl (Q_pv 7) (Q_pa_kx rfl (Q_pv 5) Q_pa_nil))))))))))))))), ?_⟩
    have sz : (20 : Nat) ≤ sizeLine := by decide
    have z3 : 3 ≤ sizeLine := by decide
    have z2 : 2 ≤ sizeLine := by decide
    refine ⟨_, rfl, _, rfl, _, _, rfl, rfl, b, bl, (most : Int) + 1, rfl, hB, by omega, by omega, fun z H1 z0 z1 hB1 k1 => ?_⟩
    obtain ⟨l, rfl⟩ : ∃ l : Nat, z = (l : Int) := ⟨z.toNat, by omega⟩
    refine ⟨_, rfl, _, rfl, _, rfl, _, rfl, b, bl, l, most, fewN, rfl, hB1, by omega, h2, h3, fun t v ws r rm H2 hT hW hY hE n1 n2 hm hr' hg hB2 k2 => ?_⟩
    refine ⟨t, _, rfl, hT, rfl, _, _, rfl, _, _, rfl, _, _, rfl, rfl, ?_⟩
    refine ⟨_, rfl, _, rfl, b, bl, 6, rfl, hB2, by decide, by decide, fun kd H3 y0 y1 hB3 k3 => ?_⟩
    have hF : Fnd fewN ws l r rm := ⟨hY, hE, n1, n2, hm, hg, by omega, by omega⟩
    have hW3 := hW.kt (hB2.kt k3)
    have k03 := k1.trans (k2.trans k3)
    have fin : ∀ (v : V) (wt : Wt) (l r : Nat) H4, Wr K H4 wt v → AnyW fewN wt l r → Bag H4 b bl → But b H H4 → ∀ q, H4 q = none → Q (.ref q) (upd H4 q (.tup [v, nV l, nV r])) := fun v wt l r H4 a1 a2 a3 a4 q hq =>
      k q v wt l r _ (SqT.of upd_same) (a1.kt (Same.kt (Same.new hq))) a2 (a3.same (Same.new hq)) (a4.trans (But.of (Same.new hq)))
    refine ⟨?_, ?_⟩
    · have no : LaI K b bl most fewN H [some (.ref b), some (nV most), some (nV fewN), some (nV l), some v, some (nV r), some (nV rm), some (nV l), some (.int kd), none, none, none, none] H3 := ⟨l, r, rm, kd, v, ws, none, none, none, none, rfl, hW3, hF, hB3, k03⟩
      refine ⟨_, rfl, rfl, _, rfl, ite2 (fun _ => ⟨_, rfl, _, _, rfl, rfl, _, rfl, ite2 (fun hl => ⟨_, rfl, _, _, rfl, rfl, _, rfl, ite2 (fun hrr => ?_) (fun _ => no)⟩) (fun _ => no)⟩) (fun _ => no)⟩
      have hl1 := of_decide_eq_true hl
      have hr1 := of_decide_eq_true hrr
      refine ⟨_, rfl, z2, fun p1 hp1 => ⟨_, rfl, _, _, rfl, rfl, _, rfl, _, _, rfl, rfl, z3, fun q hq => ?_⟩⟩
      have el : (l : Int) - 1 = ((l - 1 : Nat) : Int) := by omega
      have er : (r : Int) - 1 = ((r - 1 : Nat) : Int) := by omega
      have := fin (.ref p1) (.rng (.thn ws)) (l - 1) (r - 1) _ ⟨p1, v, rfl, SqT.of upd_same, hW3.kt (Same.kt (Same.new hp1))⟩ ⟨(hF.ws.rng).mono (by omega) (by omega) (by omega), by rw [Wt.ends, hE]; show rngE (l, r) = _; unfold rngE; rw [if_neg (by omega)], by have := hF.hl; omega, by have := hF.hr; omega⟩ (hB3.same (Same.new hp1)) (k03.trans (But.of (Same.new hp1))) q hq
      unfold nV at this
      rw [← el, ← er] at this
      exact this
    clear hB1 k1 z0 z1 hT hW hY hE n1 n2 hm hg hB2 k2 y0 y1 hB3 k3 hF hW3 k03 hr'
    rintro σ H3 ⟨l, r, rm, kd, v, ws, v9, v10, v11, v12, rfl, hW, hF, hB3, k3⟩
    refine ⟨_, rfl, rfl, _, rfl, ite2 (fun _ => ?_) (fun _ => ?_)⟩
    · refine ⟨_, rfl, z2, fun p1 hp1 => ⟨_, rfl, _, rfl, z3, fun q hq => ?_⟩⟩
      exact fin (.ref p1) (.trn (.thn ws)) r l _ ⟨p1, v, rfl, SqT.of upd_same, hW.kt (Same.kt (Same.new hp1))⟩ ⟨(hF.ws.trn).mono (by omega) (by omega) (by omega), by rw [Wt.ends, hF.e]; rfl, by have := hF.hr; omega, by have := hF.hl; omega⟩ (hB3.same (Same.new hp1)) (k3.trans (But.of (Same.new hp1))) q hq
    refine ⟨?_, ?_⟩
    · have no : LaI K b bl most fewN H [some (.ref b), some (nV most), some (nV fewN), some (nV l), some v, some (nV r), some (nV rm), some (nV l), some (.int kd), v9, v10, v11, v12] H3 := ⟨l, r, rm, kd, v, ws, v9, v10, v11, v12, rfl, hW, hF, hB3, k3⟩
      refine ⟨_, rfl, rfl, _, rfl, ite2 (fun _ => ⟨_, rfl, _, _, rfl, rfl, _, rfl, ite2 (fun hl => ⟨_, rfl, _, _, rfl, rfl, _, rfl, ite2 (fun hrr => ⟨_, rfl, _, _, rfl, rfl, _, rfl, ite2 (fun hrm => ?_) (fun _ => no)⟩) (fun _ => no)⟩) (fun _ => no)⟩) (fun _ => no)⟩
      have hl1 := of_decide_eq_true hl
      have hr1 := of_decide_eq_true hrr
      have hm1 := of_decide_eq_true hrm
      have z1 : 1 ≤ sizeLine := by decide
      have hr5 := hF.hr
      have el : (l : Int) - 1 = ((l - 1 : Nat) : Int) := by omega
      have er : (r : Int) - 1 = ((r - 1 : Nat) : Int) := by omega
      refine ⟨_, rfl, z1, fun q1 hq1 => ⟨z1, fun q2 hq2 => ⟨_, rfl, _, _, rfl, rfl, q2, .ref q1, (r : Int) - 1, rfl, rfl, SqT.of upd_same, by omega, by omega, fun r1 H4 s4 f4 => ⟨z1, fun q4 hq4 => ⟨z1, fun q5 hq5 => ⟨r1, q5, _, _, rfl, rfl, Same.tup ((Same.new hq4).trans (Same.new hq5)) f4, SqT.of upd_same, ?_, fun r2 H5 s5 f5 => ⟨z2, fun q6 hq6 => ⟨z2, fun q7 hq7 => ⟨z2, fun q8 hq8 => ?_⟩⟩⟩⟩⟩⟩⟩⟩⟩
      · rw [List.length_replicate]; simp only [List.length_cons, List.length_nil]; omega
      refine ⟨_, rfl, z2, fun p1 hp1 => ⟨_, rfl, _, _, rfl, rfl, _, rfl, _, _, rfl, rfl, z3, fun q hq => ?_⟩⟩
      have t8 := Same.new (o := .tup [V.str "ring", .ref q8]) hp1
      have t7 := (Same.new (o := .tup [V.str "then", .ref q7]) hq8).trans t8
      have t6 := (Same.new (o := .tup [v, .ref q6]) hq7).trans t7
      have t5 := (Same.new (o := .tup [V.str "beside", .ref r2]) hq6).trans t6
      have t4 := s5.trans t5
      have t3 := (Same.new (o := .tup [V.ref q4]) hq5).trans t4
      have t2 := (Same.new (o := .tup [V.str "lag"]) hq4).trans t3
      have t1 := s4.trans t2
      have t0 := (Same.new (o := .tup [V.ref q1]) hq2).trans t1
      have tt := (Same.new (o := .tup [V.str "wire"]) hq1).trans t0
      have g1 := SqT.of (K := K) (t0 _ _ upd_same)
      have g4 := SqT.of (K := K) (t3 _ _ upd_same)
      have g5 := Same.tup t5 f5
      have g6 := SqT.of (K := K) (t6 _ _ upd_same)
      have g7 := SqT.of (K := K) (t7 _ _ upd_same)
      have g8 := SqT.of (K := K) (t8 _ _ upd_same)
      have g9 := SqT.of (K := K) (upd_same (H := upd (upd (upd (upd H5 q6 (.tup [V.str "beside", .ref r2])) q7 (.tup [v, .ref q6])) q8 (.tup [V.str "then", .ref q7])) p1 (.tup [V.str "ring", .ref q8])) (a := p1) (o := .tup [V.str "ring", .ref q8]))
      rw [show ((r : Int) - 1).toNat = r - 1 by omega] at g5
      obtain ⟨aw, as, ae, al⟩ := wires (K := K) (v := .ref q1) ⟨q1, rfl, g1⟩ (r - 1)
      have hS0 : Smalls (List.replicate (r - 1) (.box .wire) ++ [Wt.box .lag]) := as.app ⟨.lag, trivial, .inl rfl⟩
      have hE0 := endsT_app ae (show (Wt.box .lag).ends = some (1, 1) by rw [Wt.ends]; rfl)
      rw [show r - 1 + 1 = r by omega] at hE0
      have hlen0 : (List.replicate (r - 1) (Wt.box .wire) ++ [Wt.box .lag]).length = r := by rw [List.length_append, List.length_replicate, List.length_singleton]; omega
      have hb := hS0.ws.bes (by omega) (by omega)
      have hcl : (boxesL (List.replicate (r - 1) (Wt.box .wire) ++ [Wt.box .lag])).count .lag = 1 := by rw [lagL_app, al]; decide +kernel
      rw [hcl, hlen0] at hb
      have hl4 := hF.hl
      have hg := hF.g
      have hw2 := (WsL.two hF.ws (hb.mono (show 3 ≤ 4 by omega) (show r ≤ 5 by omega) (Nat.le_refl 1))).thn (by simp) (by simp)
      have he2 := thn_two hF.e (bes_ends hE0 (by omega) (by omega)) (by omega) (by omega)
      have := fin (.ref p1) (.rng (.thn [.thn ws, .bes (List.replicate (r - 1) (.box .wire) ++ [Wt.box .lag])])) (l - 1) (r - 1) _ ⟨p1, .ref q8, rfl, SqT.of upd_same, q8, q7, [v, .ref q6], rfl, g8, g7, by
        rw [WrAll]
        refine ⟨v, _, rfl, hW.kt (Same.kt tt), ?_⟩
        rw [WrAll]
        exact ⟨.ref q6, [], rfl, ⟨q6, r2, _, rfl, g6, g5, aw.app ⟨q4, rfl, g4⟩⟩, by rw [WrAll]⟩⟩ ⟨(hw2.rng).mono (by omega) (by omega) (by omega), by rw [Wt.ends, he2]; show rngE (l, r) = _; unfold rngE; rw [if_neg (by omega)], by omega, by omega⟩ (hB3.same tt) (k3.trans (But.of tt)) q hq
      unfold nV at this
      rw [← el, ← er] at this
      exact this
    clear hW hF hB3 k3
    rintro σ H3 ⟨l, r, rm, kd, v, ws, v9, v10, v11, v12, rfl, hW, hF, hB3, k3⟩
    refine ⟨?_, ?_⟩
    · have no : LaI K b bl most fewN H [some (.ref b), some (nV most), some (nV fewN), some (nV l), some v, some (nV r), some (nV rm), some (nV l), some (.int kd), v9, v10, v11, v12] H3 := ⟨l, r, rm, kd, v, ws, v9, v10, v11, v12, rfl, hW, hF, hB3, k3⟩
      refine ⟨_, rfl, rfl, _, rfl, ite2 (fun _ => ⟨_, rfl, _, _, rfl, rfl, _, rfl, ite2 (fun hrr => ?_) (fun _ => no)⟩) (fun _ => no)⟩
      have hr1 := of_decide_eq_true hrr
      have hr5 := hF.hr
      refine ⟨_, rfl, _, rfl, b, bl, (most : Int), rfl, hB3, by omega, by omega, fun n H4 n0 n1 hB4 k4 => ⟨_, _, rfl, rfl, 1 + n, rfl, by omega, by omega, fun D hD => ?_⟩⟩
      have nDb : D ≠ b := hB4.fresh hD
      have nDl : D ≠ bl := hB4.freshL hD
      have hDH : H D = none := (k3.trans k4).free nDb hD
      refine lc_range (lo := 0) (n := (1 + n).toNat) (fun i Hx => ∃ us rows, Hx D = some (.lst us) ∧ RwsAt K Hx us rows ∧ rows.length = i ∧ (∀ ns ∈ rows, ns.length = r ∧ ∀ m ∈ ns, m ≤ 96) ∧ Wr K Hx (.thn ws) v ∧ Bag Hx b bl ∧ But b H Hx) ?_ (fun i Hx hi p => ?_) (fun Hx p => ?_)
      · exact ⟨[], [], upd_same, ⟨rfl, fun i ns e => by simp at e⟩, rfl, fun _ z => (by cases z), (hW.kt (hB3.kt k4)).kt (Same.kt (Same.new hD)), hB4.same (Same.new hD), (k3.trans k4).trans (But.of (Same.new hD))⟩
      · obtain ⟨us, rows, e1, R1, l1, g1, W1, B1, kk⟩ := p
        refine ⟨rfl, yes_if ⟨_, rfl, (r : Int), rfl, by omega, by omega, fun D2 hD2 => ?_⟩⟩
        have nD2b : D2 ≠ b := B1.fresh hD2
        have nD2l : D2 ≠ bl := B1.freshL hD2
        have hD2H : H D2 = none := kk.free nD2b hD2
        have nDD : D ≠ D2 := fun z => by rw [z, hD2] at e1; cases e1
        refine lc_range (lo := 0) (n := (r : Int).toNat) (fun j Hy => ∃ ns : List Nat, Hy D2 = some (.lst (ns.map nV)) ∧ ns.length = j ∧ (∀ m ∈ ns, m ≤ 96) ∧ Hy D = some (.lst us) ∧ RwsAt K Hy us rows ∧ Wr K Hy (.thn ws) v ∧ Bag Hy b bl ∧ But b H Hy) ?_ (fun j Hy hj p => ?_) (fun Hy p => ?_)
        · exact ⟨[], upd_same, rfl, fun _ z => (by cases z), Same.new hD2 _ _ e1, R1.ktM (Same.kt (Same.new hD2)), W1.kt (Same.kt (Same.new hD2)), B1.same (Same.new hD2), kk.trans (But.of (Same.new hD2))⟩
        · obtain ⟨ns, a1, a2, a3, a4, a5, a6, a7, a8⟩ := p
          refine ⟨rfl, yes_if ⟨_, rfl, b, bl, 97, rfl, a7, by decide, by decide, fun z H6 z0 z1 B6 k6 => ⟨ns.map nV, k6 _ _ a1 nD2b, by rw [List.length_map]; omega, ns ++ [z.toNat], ?_, by simp [a2], ?_, ?_, ?_, ?_, B6.but But.upd nD2b.symm nD2l.symm, fun c o e ne => ?_⟩⟩⟩
          · rw [upd_same, List.map_append]
            show some (HO.lst (ns.map nV ++ [V.int z])) = some (HO.lst (ns.map nV ++ [V.int (z.toNat : Nat)]))
            rw [Int.toNat_of_nonneg z0]
          · intro m hm
            rcases List.mem_append.mp hm with y | y
            · exact a3 m y
            · rw [List.mem_singleton.mp y]; omega
          · rw [upd_ne nDD]; exact k6 _ _ a4 nDb
          · exact (a5.ktM (a7.kt k6)).ktM (But.ktL But.upd (k6 _ _ a1 nD2b))
          · exact (a6.kt (a7.kt k6)).kt (But.ktL But.upd (k6 _ _ a1 nD2b))
          · rw [upd_ne (ne_of_none e hD2H)]; exact k6 c o (a8 c o e ne) ne
        · obtain ⟨ns, a1, a2, a3, a4, a5, a6, a7, a8⟩ := p
          refine ⟨D2, _, rfl, .inl ⟨SqL.of a1, fun q hq => ⟨us, Same.new hq _ _ a4, ?_, us ++ [.ref q], rows ++ [ns], upd_same, ?_, by simp [l1], ?_, ?_, (a7.same (Same.new hq)).but But.upd nDb.symm nDl.symm, fun c o e ne => ?_⟩⟩⟩
          · rw [R1.1, l1]; omega
          · exact ((a5.ktM (Same.kt (Same.new hq))).app (SqT.of upd_same)).ktM (But.ktL But.upd (Same.new hq _ _ a4))
          · intro ms hm
            rcases List.mem_append.mp hm with y | y
            · exact g1 ms y
            · rw [List.mem_singleton.mp y]; exact ⟨by omega, a3⟩
          · exact (a6.kt (Same.kt (Same.new hq))).kt (But.ktL But.upd (Same.new hq _ _ a4))
          · rw [upd_ne (ne_of_none e hDH)]; exact Same.new hq _ _ (a8 c o e ne)
      · obtain ⟨us, rows, e1, R1, l1, g1, W1, B1, kk⟩ := p
        refine ⟨D, us, rfl, .inl ⟨SqL.of e1, fun q hq => ⟨_, rfl, _, rfl, z2, fun p1 hp1 => ⟨z2, fun p2 hp2 => ⟨z2, fun p3 hp3 => ⟨_, rfl, _, rfl, q, us, rfl, .inr (SqT.of (Same.new hp3 _ _ (Same.new hp2 _ _ (Same.new hp1 _ _ upd_same)))), z3, fun q' hq' => ?_⟩⟩⟩⟩⟩⟩
        have t2 := Same.new (o := .tup [V.str "then", .ref p2]) hp3
        have t1 := (Same.new (o := .tup [v, .ref p1]) hp2).trans t2
        have t0 := (Same.new (o := .tup [V.str "mix", .ref q]) hp1).trans t1
        have tt := (Same.new (o := .tup us) hq).trans t0
        have f0 := SqT.of (K := K) (t0 _ _ upd_same)
        have f1 := SqT.of (K := K) (t1 _ _ upd_same)
        have f2 := SqT.of (K := K) (t2 _ _ upd_same)
        have hhd : (rows.headD []).length = r := by
          cases rows with
          | nil => simp at l1; omega
          | cons x xs => exact (g1 x (by simp)).1
        have R2 := R1.ktM (Same.kt tt)
        have hok : (Bx.mix rows).ok := by
          unfold Bx.ok
          refine ⟨by omega, by omega, fun ns hn => ⟨by rw [(g1 ns hn).1]; omega, by rw [(g1 ns hn).1]; omega, (g1 ns hn).2⟩, fun ns hn => by rw [(g1 ns hn).1, hhd]⟩
        have hbw : Ws 1 1 0 (.box (.mix rows)) := ⟨by rw [Wt.okj]; trivial, by rw [Wt.boxes]; intro x hx; rw [List.mem_singleton.mp hx]; exact hok, by rw [Wt.deep]; omega, by rw [Wt.boxes]; simp, by rw [Wt.boxes]; simp⟩
        have hl4 := hF.hl
        have hw2 := (WsL.two hF.ws (hbw.mono (show 1 ≤ 4 by omega) (Nat.le_refl 1) (Nat.le_refl 0))).thn (by simp) (by simp)
        have he2 := thn_two (z := rows.length) hF.e (show (Wt.box (.mix rows)).ends = some (r, rows.length) by rw [Wt.ends]; show some ((rows.headD []).length, rows.length) = _; rw [hhd]) (by omega) (by omega)
        have hlu : us.length = rows.length := R1.1
        have := fin (.ref p3) (.thn [.thn ws, .box (.mix rows)]) l rows.length _ ⟨p3, p2, [v, .ref p1], rfl, SqT.of upd_same, f2, by
          rw [WrAll]
          refine ⟨v, _, rfl, W1.kt (Same.kt tt), ?_⟩
          rw [WrAll]
          exact ⟨.ref p1, [], rfl, ⟨p1, rfl, q, us, f1, f0, R2⟩, by rw [WrAll]⟩⟩ ⟨hw2.mono (by omega) (by omega) (by omega), he2, by omega, by omega⟩ (B1.same tt) (kk.trans (But.of tt)) q' hq'
        rw [← hlu] at this
        exact this
    clear hW hF hB3 k3
    rintro σ H3 ⟨l, r, rm, kd, v, ws, v9, v10, v11, v12, rfl, hW, hF, hB3, k3⟩
    refine ⟨_, rfl, _, rfl, _, rfl, z3, fun q hq => ?_⟩
    exact fin v (.thn ws) l r _ hW ⟨hF.ws.mono (by omega) (by omega) (by omega), hF.e, by have := hF.hl; omega, hF.hr⟩ hB3 k3 q hq
end
end L2.Lw

set_option Elab.async false
set_option linter.all false
set_option maxRecDepth 100000
namespace L2.Lw
open PySem PySem.Spec PyProof.Rows
/-! ### wirings whose ends do not fit -/
theorem Ws.box {b : Bx} (h : b.ok) : Ws 1 1 1 (.box b) := ⟨by rw [Wt.okj]; trivial, by rw [Wt.boxes]; intro x hx; rw [List.mem_singleton.mp hx]; exact h, by rw [Wt.deep]; omega, by rw [Wt.boxes]; simp, by rw [Wt.boxes]; exact Nat.le_trans List.count_le_length (by simp)⟩
theorem Ws.box0 {b : Bx} (h : b.ok) (n : b ≠ .lag) : Ws 1 1 0 (.box b) := ⟨(Ws.box h).j, (Ws.box h).b, (Ws.box h).d, (Ws.box h).m, by rw [Wt.boxes, List.count_singleton, if_neg (by simpa using n)]; omega⟩
theorem WsL.nil {D : Nat} : WsL D 0 0 [] := ⟨by rw [okjL]; trivial, by rw [boxesL_nil]; simp, by simp, by rw [boxesL_nil]; simp, by rw [boxesL_nil]; simp⟩
theorem WsL.cons {D M G M2 G2 : Nat} {a : Wt} {ws : List Wt} (h : Ws D M G a) (q : WsL D M2 G2 ws) : WsL D (M + M2) (G + G2) (a :: ws) := by
  have e : boxesL (a :: ws) = a.boxes ++ boxesL ws := boxesL_cons _ _
  refine ⟨by rw [okjL]; exact ⟨h.j, q.j⟩, ?_, ?_, ?_, ?_⟩
  · rw [e]; intro x hx
    rcases List.mem_append.mp hx with z | z
    · exact h.b x z
    · exact q.b x z
  · intro w hw
    rcases List.mem_cons.mp hw with rfl | z
    · exact h.d
    · exact q.d w z
  · rw [e, List.length_append]; have := h.m; have := q.m; omega
  · rw [e, List.count_append]; have := h.g; have := q.g; omega
theorem WsL.rep {D M G : Nat} {w : Wt} (h : Ws D M G w) : ∀ n : Nat, WsL D (n * M) (n * G) (List.replicate n w)
  | 0 => by rw [Nat.zero_mul, Nat.zero_mul]; exact .nil
  | n + 1 => by
    rw [Nat.succ_mul, Nat.succ_mul, Nat.add_comm, Nat.add_comm (n * G), List.replicate_succ]
    exact .cons h (WsL.rep h n)
theorem endsT_cons {w : Wt} {ws : List Wt} {a b c d : Nat} (h : w.ends = some (a, b)) (q : endsT ws = some (c, d)) : endsT (w :: ws) = some (a + c, b + d) := by
  unfold endsT at q ⊢
  rw [endsL_cons, h]
  obtain ⟨es, e1, e2⟩ := Option.map_eq_some_iff.mp q
  rw [e1]
  show some (besE ((a, b) :: es)) = _
  unfold besE at e2 ⊢
  injection e2 with e3 e4
  rw [List.map_cons, List.map_cons, List.sum_cons, List.sum_cons, e3, e4]
theorem endsT_nil : endsT [] = some (0, 0) := by unfold endsT; rw [endsL_nil]; rfl
theorem endsT_rep {w : Wt} {a b : Nat} (h : w.ends = some (a, b)) : ∀ n : Nat, endsT (List.replicate n w) = some (n * a, n * b)
  | 0 => by rw [Nat.zero_mul, Nat.zero_mul]; exact endsT_nil
  | n + 1 => by
    rw [Nat.succ_mul, Nat.succ_mul, Nat.add_comm (n * a), Nat.add_comm (n * b), List.replicate_succ]
    exact endsT_cons h (endsT_rep h n)
theorem bes_big {xs : List Wt} {a b : Nat} (h : endsT xs = some (a, b)) (hb : ¬ (a ≤ 12 ∧ b ≤ 12)) : (Wt.bes xs).ends = none := by
  unfold endsT at h
  obtain ⟨es, e1, e2⟩ := Option.map_eq_some_iff.mp h
  rw [Wt.ends, e1]
  show few (some (besE es)) = none
  rw [e2]; exact few_big hb
theorem thn_apart {a b : Wt} {x y z u : Nat} (h : a.ends = some (x, y)) (q : b.ends = some (z, u)) (ne : y ≠ z) : (Wt.thn [a, b]).ends = none := by
  rw [Wt.ends, endsL_cons, endsL_cons, endsL_nil, h, q]
  show few (thnE [(x, y), (z, u)]) = none
  rw [thnE, if_neg ne]; rfl
theorem rng_none {a : Wt} {x y : Nat} (h : a.ends = some (x, y)) (q : x = 0 ∨ y = 0) : (Wt.rng a).ends = none := by
  rw [Wt.ends, h]; show rngE (x, y) = none; unfold rngE; rw [if_pos q]
theorem wire_ends : (Wt.box .wire).ends = some (1, 1) := by rw [Wt.ends]; rfl
theorem copy_ends (n : Nat) : (Wt.box (.copy n)).ends = some (1, n) := by rw [Wt.ends]; rfl
theorem sum_ends (n : Nat) : (Wt.box (.sum n)).ends = some (n, 1) := by rw [Wt.ends]; rfl
/-- a wiring that does not fit -/
def Bad (D M G : Nat) (w : Wt) : Prop := Ws D M G w ∧ w.ends = none
def Bads (K : PySem.W.Frag) (H : Hp) (us : List V) : Prop := ∀ x ∈ us, ∃ w, Wr K H w x ∧ Bad 10 42 4 w
theorem Bads.kt {K : PySem.W.Frag} {H H' : Hp} {us : List V} (h : Bads K H us) (k : KT K H H') : Bads K H' us := fun x hx => let ⟨w, a, b⟩ := h x hx; ⟨w, a.kt k, b⟩
theorem Bads.app {K : PySem.W.Frag} {H : Hp} {us vs : List V} (h : Bads K H us) (q : Bads K H vs) : Bads K H (us ++ vs) := fun x hx => by
  rcases List.mem_append.mp hx with z | z
  · exact h x z
  · exact q x z
theorem Bads.cons {K : PySem.W.Frag} {H : Hp} {x : V} {vs : List V} {w : Wt} (h : Wr K H w x) (b : Bad 10 42 4 w) (q : Bads K H vs) : Bads K H (x :: vs) := fun y hy => by
  rcases List.mem_cons.mp hy with rfl | z
  · exact ⟨w, h, b⟩
  · exact q y z
theorem Bads.nil {K : PySem.W.Frag} {H : Hp} : Bads K H [] := fun y hy => by simp at hy
theorem wires_ws (n : Nat) (h1 : 1 ≤ n) (h2 : n ≤ 12) : Ws 2 n 0 (.bes (List.replicate n (.box .wire))) := by
  have := (WsL.rep (Ws.box0 (b := .wire) trivial (by simp)) n).bes (by simpa using h1) (by simpa using h2)
  rwa [Nat.mul_one, Nat.mul_zero] at this
theorem wires_ends (n : Nat) (h2 : n ≤ 12) : (Wt.bes (List.replicate n (.box .wire))).ends = some (n, n) := by
  have := endsT_rep wire_ends n
  rw [Nat.mul_one] at this
  exact bes_ends this h2 h2
theorem drops_ws (n : Nat) (h1 : 1 ≤ n) (h2 : n ≤ 12) : Ws 2 n 0 (.bes (List.replicate n (.box (.copy 0)))) := by
  have := (WsL.rep (Ws.box0 (b := .copy 0) (by show 0 ≤ 4; omega) (by simp)) n).bes (by simpa using h1) (by simpa using h2)
  rwa [Nat.mul_one, Nat.mul_zero] at this
theorem drops_ends (n : Nat) (h2 : n ≤ 12) : (Wt.bes (List.replicate n (.box (.copy 0)))).ends = some (n, 0) := by
  have := endsT_rep (copy_ends 0) n
  rw [Nat.mul_one, Nat.mul_zero] at this
  exact bes_ends this h2 (by omega)
section
variable {wt : Wt} {l r : Nat}
theorem bad1 (s : Ws 8 30 4 wt) (e : wt.ends = some (l, r)) (hr : r ≤ 6) : Bad 10 42 4 (.thn [wt, .bes (List.replicate (r + 1) (.box .wire))]) :=
  ⟨((WsL.two s ((wires_ws (r + 1) (by omega) (by omega)).mono (by omega) (Nat.le_refl _) (Nat.le_refl _))).thn (by simp) (by simp)).mono (by omega) (by omega) (by omega), thn_apart e (wires_ends _ (by omega)) (by omega)⟩
theorem bad2 (h1 : 1 ≤ r) (hr : r ≤ 6) : Bad 10 42 4 (.thn [.bes (List.replicate (r + 1) (.box .wire)), .bes (List.replicate r (.box .wire))]) :=
  ⟨((WsL.two (wires_ws (r + 1) (by omega) (by omega)) (wires_ws r h1 (by omega))).thn (by simp) (by simp)).mono (by omega) (by omega) (by omega), thn_apart (wires_ends _ (by omega)) (wires_ends _ (by omega)) (by omega)⟩
theorem bad3 : Bad 10 42 4 (.rng (.box (.copy 0))) := ⟨(Ws.box0 (b := .copy 0) (by show 0 ≤ 4; omega) (by simp)).rng.mono (by omega) (by omega) (by omega), rng_none (copy_ends 0) (.inr rfl)⟩
theorem bad4 : Bad 10 42 4 (.rng (.box (.sum 0))) := ⟨(Ws.box0 (b := .sum 0) (by show 0 ≤ 4; omega) (by simp)).rng.mono (by omega) (by omega) (by omega), rng_none (sum_ends 0) (.inl rfl)⟩
theorem bad5 : Bad 10 42 4 (.bes (List.replicate 2 (.box (.mix [List.replicate 7 1])))) := by
  have ok : (Bx.mix [List.replicate 7 1]).ok := ⟨by decide, by decide, by decide, by decide⟩
  refine ⟨((WsL.rep (Ws.box0 ok (by simp)) 2).bes (by simp) (by simp)).mono (by omega) (by omega) (by omega), ?_⟩
  exact bes_big (endsT_rep (show (Wt.box (.mix [List.replicate 7 1])).ends = some (7, 1) by rw [Wt.ends]; rfl) 2) (by omega)
theorem bad6 : Bad 10 42 4 (.bes (List.replicate 4 (.box (.copy 4)))) :=
  ⟨((WsL.rep (Ws.box0 (b := .copy 4) (by show 4 ≤ 4; omega) (by simp)) 4).bes (by simp) (by simp)).mono (by omega) (by omega) (by omega), bes_big (endsT_rep (copy_ends 4) 4) (by omega)⟩
theorem bad7 (s : Ws 8 30 4 wt) (e : wt.ends = some (l, r)) (h1 : 1 ≤ r) (hr : r ≤ 6) (hl : l ≤ 6) : Bad 10 42 4 (.rng (.thn [wt, .bes (List.replicate r (.box (.copy 0)))])) :=
  ⟨((WsL.two s ((drops_ws r h1 (by omega)).mono (by omega) (Nat.le_refl _) (Nat.le_refl _))).thn (by simp) (by simp)).rng.mono (by omega) (by omega) (by omega), rng_none (thn_two e (drops_ends _ (by omega)) (by omega) (by omega)) (.inr rfl)⟩
def wideW : Wt := .bes [.box (.copy 4), .box (.copy 4), .box (.copy 4), .box .wire]
def dropsW : Wt := .bes [.bes (List.replicate 12 (.box (.copy 0))), .box .wire]
theorem bad8 : Bad 10 42 4 (.thn [wideW, dropsW]) := by
  have c4 : Ws 1 1 0 (.box (.copy 4)) := Ws.box0 (b := .copy 4) (by show 4 ≤ 4; omega) (by simp)
  have w : Ws 1 1 0 (.box .wire) := Ws.box0 (b := .wire) trivial (by simp)
  have s1 : Ws 2 4 0 wideW := ((WsL.cons c4 (.cons c4 (.cons c4 (.cons w .nil)))).bes (by simp) (by simp)).mono (by omega) (by omega) (by omega)
  have s2 : Ws 3 13 0 dropsW := ((WsL.two (drops_ws 12 (by omega) (by omega)) (w.mono (by omega) (Nat.le_refl _) (Nat.le_refl _))).bes (by simp) (by simp)).mono (by omega) (by omega) (by omega)
  refine ⟨((WsL.two (s1.mono (by omega) (Nat.le_refl _) (Nat.le_refl _)) s2).thn (by simp) (by simp)).mono (by omega) (by omega) (by omega), ?_⟩
  have e1 : wideW.ends = none := bes_big (endsT_cons (copy_ends 4) (endsT_cons (copy_ends 4) (endsT_cons (copy_ends 4) (endsT_cons wire_ends endsT_nil)))) (by omega)
  rw [Wt.ends, endsL_cons, e1]; rfl
end
def MfO (K : PySem.W.Frag) (b : Addr) (v : V) (l r : Nat) (H : Hp) (σ : St) (H' : Hp) : Prop := ∃ (vO : V) (q : Addr) (us : List V), σ = [some (.ref b), some v, some (nV l), some (nV r), some vO, some (.ref q), none, none] ∧ H' q = some (.lst us) ∧ Bads K H' us ∧ us ≠ [] ∧ us.length ≤ 10 ∧ Same H H' ∧ H q = none
def spMisfit (K : PySem.W.Frag) : Sp := fun vs H Q _ => ∃ (b bl : Addr) (v : V) (wt : Wt) (l r : Nat), vs = [.ref b, v, nV l, nV r] ∧ Bag H b bl ∧ Wr K H wt v ∧ Ws 8 30 4 wt ∧ wt.ends = some (l, r) ∧ 1 ≤ r ∧ l ≤ 6 ∧ r ≤ 6 ∧
  ∀ x w H', Wr K H' w x → Bad 10 42 4 w → Bag H' b bl → But b H H' → Q x H'
section
variable {P : Program} {w : World} {K : PySem.W.Frag} {mg : Str → Option Value} {base : Heap}
theorem sc_law_misfit : FnScope ["_law_bag_here", "_law_wiring_here", "_law_left", "_law_right", "_law_other", "_law_odds", "_law_wide", "_law_drops"] ["_law_bag_here", "_law_wiring_here", "_law_left", "_law_right"] (defScope s_law_misfit) := ⟨rfl, rfl, rfl, by decide +kernel, rfl, by decide +kernel, by decide +kernel⟩
set_option maxHeartbeats 8000000 in
theorem ok_lmisfit (d : Dfn K mg "_law_misfit" s_law_misfit ["_law_bag_here", "_law_wiring_here", "_law_left", "_law_right"]) (T : Bi mg) (c_law_of : Cal P w K mg base "_law_of" 2 ["_law_bag_here", "_law_some"] (spOf K) (Pla K ["_law_bag_here", "_law_some"])) : Cal P w K mg base "_law_misfit" 3 ["_law_bag_here", "_law_wiring_here", "_law_left", "_law_right"] (spMisfit K) (Pla K ["_law_bag_here", "_law_wiring_here", "_law_left", "_law_right"]) := by
  refine d.ok sc_law_misfit (fun vs H Q E h => ?_) (fun f cdv A outer s H vs Q E hr h => ?_)
  · obtain ⟨b, bl, v, wt, l, r, rfl, _⟩ := h; rfl
  · obtain ⟨b, bl, v, wt, l, r, rfl, hB, hW, hs, he, r1, l6, r6, k⟩ := h
    have nd := sc_law_misfit.nd
    refine ⟨_, (unqZ (Q_pss_cons (Q_ps_set (i := 4) nd rfl (by first | exact Or.inl rfl | exact Or.inr rfl) (Q_pw_bes K (Q_pl_rep K rfl (Q_pl_tup K (Q_pwa_cons K (Q_pw_wire K) (Q_pwa_nil K))) (Q_pn_add (Q_pn_name (Q_pv 3)) Q_pn_int))))
      (Q_pss_cons (Q_ps_set (i := 5) nd rfl (by first | exact Or.inl rfl | exact Or.inr rfl) (Q_pe_lst (Q_pa_cons (Q_pw_thn K (Q_pl_tup K (Q_pwa_cons K (Q_pw_name K (Q_pv 1)) (Q_pwa_cons K (Q_pw_name K (Q_pv 4)) (Q_pwa_nil K))))) (Q_pa_cons (Q_pw_thn K (Q_pl_tup K (Q_pwa_cons K (Q_pw_name K (Q_pv 4)) (Q_pwa_cons K (Q_pw_bes K (Q_pl_rep K rfl (Q_pl_tup K (Q_pwa_cons K (Q_pw_wire K) (Q_pwa_nil K))) (Q_pn_name (Q_pv 3)))) (Q_pwa_nil K))))) (Q_pa_cons (Q_pw_rng K (Q_pw_copy K Q_pn_int)) Q_pa_nil)))))
      (Q_pss_cons (Q_ps_set (i := 5) nd rfl (by first | exact Or.inl rfl | exact Or.inr rfl) (Q_pe_op op_cat (Q_pv 5) (Q_pe_lst (Q_pa_cons (Q_pw_rng K (Q_pw_sum K Q_pn_int)) (Q_pa_cons (Q_pw_bes K (Q_pl_rep K rfl (Q_pl_tup K (Q_pwa_cons K (Q_pw_mix K (Q_prs_tup K (Q_pra_cons K (Q_pns_rep K rfl (Q_pns_tup K (Q_pna_cons Q_pn_int Q_pna_nil)) Q_pn_int) (Q_pra_nil K)))) (Q_pwa_nil K))) Q_pn_int)) (Q_pa_cons (Q_pw_bes K (Q_pl_rep K rfl (Q_pl_tup K (Q_pwa_cons K (Q_pw_copy K Q_pn_int) (Q_pwa_nil K))) Q_pn_int)) Q_pa_nil))))))
      (Q_pss_cons (Q_ps_cut (MfO K b v l r H) (Q_ps_if (Q_pt_cmpR op_gt (Q_pv 2) Q_pe_int (nomark _)) (Q_pss_one (Q_ps_expr (Q_pe_bm PySem.F.plainAttrs_list PySem.F.slot_list_append PySem.F.type_list_append mt_append (Q_pv 5) (Q_pa_cons (Q_pe_tup (Q_pa_cons Q_pe_str (Q_pa_cons (Q_pe_ifExp (Q_pt_cmpR op_gt (Q_pv 3) Q_pe_int (nomark _)) (Q_pw_thn K (Q_pl_tup K (Q_pwa_cons K (Q_pw_name K (Q_pv 1)) (Q_pwa_cons K (Q_pw_bes K (Q_pl_rep K rfl (Q_pl_tup K (Q_pwa_cons K (Q_pw_copy K Q_pn_int) (Q_pwa_nil K))) (Q_pn_name (Q_pv 3)))) (Q_pwa_nil K))))) (Q_pw_name K (Q_pv 1))) Q_pa_nil))) Q_pa_nil)))) Q_pss_nil))
      (Q_pss_cons (Q_ps_set (i := 6) nd rfl (by first | exact Or.inl rfl | exact Or.inr rfl) (Q_pw_bes K (Q_pl_tup K (Q_pwa_cons K (Q_pw_copy K Q_pn_int) (Q_pwa_cons K (Q_pw_copy K Q_pn_int) (Q_pwa_cons K (Q_pw_copy K Q_pn_int) (Q_pwa_cons K (Q_pw_wire K) (Q_pwa_nil K))))))))
      (Q_pss_cons (Q_ps_set (i := 7) nd rfl (by first | exact Or.inl rfl | exact Or.inr rfl) (Q_pw_bes K (Q_pl_tup K (Q_pwa_cons K (Q_pw_bes K (Q_pl_rep K rfl (Q_pl_tup K (Q_pwa_cons K (Q_pw_copy K Q_pn_int) (Q_pwa_nil K))) Q_pn_int)) (Q_pwa_cons K (Q_pw_wire K) (Q_pwa_nil K))))))
      (Q_pss_one (Q_ps_ret (Q_pcall c_law_of (hr.mono (by omega)) (Q_pa_cons (Q_pv 0) (Q_pa_cons (Q_pe_op op_cat (Q_pv 5) (Q_pe_lst (Q_pa_cons (Q_pw_thn K (Q_pl_tup K (Q_pwa_cons K (Q_pw_name K (Q_pv 6)) (Q_pwa_cons K (Q_pw_name K (Q_pv 7)) (Q_pwa_nil K))))) Q_pa_nil))) Q_pa_nil)))))))))))), ?_⟩
    have n1 : 1 ≤ sizeLine := by decide
    have n3 : 3 ≤ sizeLine := by decide
    have n2 : 2 ≤ sizeLine := by decide
    have n6 : 6 ≤ sizeLine := by decide
    refine ⟨_, iBes (iRep (iLen (iCons iB iNil)) (nAdd (nNm rfl) (nInt 1)) (by omega)), fun vO H1 hO s1 => ?_⟩
    have hW1 := hW.kt (Same.kt s1)
    refine ⟨_, iThn (iLen (iCons (iV rfl hW1) (iCons (iV rfl hO) iNil))), fun x1 G1 y1 t1 => ⟨_, iThn (iLen (iCons (iV rfl (hO.kt (Same.kt t1))) (iCons (iBes (iRep (iLen (iCons iB iNil)) (nNm rfl) (by omega))) iNil))), fun x2 G2 y2 t2 => ⟨_, iRng (iNum (nInt 0)), fun x3 G3 y3 t3 => ⟨n3, fun q1 hq1 => ?_⟩⟩⟩⟩
    have t4 := Same.new (o := HO.lst [x1, x2, x3]) hq1
    have b1 : Bads K (upd G3 q1 (.lst [x1, x2, x3])) [x1, x2, x3] := .cons (y1.kt (Same.kt (t2.trans (t3.trans t4)))) (bad1 hs he r6) (.cons (y2.kt (Same.kt (t3.trans t4))) (bad2 r1 r6) (.cons (y3.kt (Same.kt t4)) bad3 .nil))
    have e1 : (upd G3 q1 (.lst [x1, x2, x3])) q1 = some (.lst [x1, x2, x3]) := upd_same
    have s2 := s1.trans (t1.trans (t2.trans (t3.trans t4)))
    clear y1 y2 y3 t1 t2 t3 t4 hq1
    generalize upd G3 q1 (.lst [x1, x2, x3]) = H2 at b1 e1 s2 ⊢
    refine ⟨_, rfl, ⟨_, iRng (iNum (nInt 0)), fun z1 G4 y1 t1 => ⟨_, iBes (iRep (iLen (iCons (iMix (nLen (nCons (nRep (nLen (nCons (nInt 1) nNil)) (nInt 7) (by omega)) nNil))) iNil)) (nInt 2) (by omega)), fun z2 G5 y2 t2 => ⟨_, iBes (iRep (iLen (iCons (iNum (nInt 4)) iNil)) (nInt 4) (by omega)), fun z3 G6 y3 t3 => ⟨n3, fun q2 hq2 => ?_⟩⟩⟩⟩⟩
    have t4 := Same.new (o := HO.lst [z1, z2, z3]) hq2
    have b2 : Bads K (upd G6 q2 (.lst [z1, z2, z3])) [z1, z2, z3] := .cons (y1.kt (Same.kt (t2.trans (t3.trans t4)))) bad4 (.cons (y2.kt (Same.kt (t3.trans t4))) bad5 (.cons (y3.kt (Same.kt t4)) bad6 .nil))
    have e2 : (upd G6 q2 (.lst [z1, z2, z3])) q2 = some (.lst [z1, z2, z3]) := upd_same
    have s3 := t1.trans (t2.trans (t3.trans t4))
    clear y1 y2 y3 t1 t2 t3 t4 hq2
    generalize upd G6 q2 (.lst [z1, z2, z3]) = H3 at b2 e2 s3 ⊢
    refine ⟨q1, q2, [x1, x2, x3], [z1, z2, z3], rfl, rfl, s3 _ _ e1, e2, n6, fun q3 hq3 => ?_⟩
    have t4 := Same.new (o := HO.lst ([x1, x2, x3] ++ [z1, z2, z3])) hq3
    have e3 : (upd H3 q3 (.lst ([x1, x2, x3] ++ [z1, z2, z3]))) q3 = some (.lst ([x1, x2, x3] ++ [z1, z2, z3])) := upd_same
    have b3 : Bads K (upd H3 q3 (.lst ([x1, x2, x3] ++ [z1, z2, z3]))) ([x1, x2, x3] ++ [z1, z2, z3]) := (b1.kt (Same.kt (s3.trans t4))).app (b2.kt (Same.kt t4))
    have s4 := s2.trans (s3.trans t4)
    have f3 : H q3 = none := Same.free (s2.trans s3) hq3
    clear t4 hq3 b1 b2 e1 e2 s2 s3
    generalize upd H3 q3 (.lst ([x1, x2, x3] ++ [z1, z2, z3])) = H4 at b3 e3 s4 ⊢
    refine ⟨?_, ?_⟩
    · refine ⟨_, rfl, _, _, rfl, rfl, _, rfl, ite2 (fun c => ?_) (fun _ => ?_)⟩
      · have hW4 := hW.kt (Same.kt s4)
        have r0 : decide (((r : Nat) : Int) > 0) = true := decide_eq_true (by omega)
        refine ⟨_, rfl, .inl ⟨rfl, _, SqL.of e3⟩, _, rfl, _, _, rfl, rfl, _, rfl, (if_pos r0).mpr ?_⟩
        refine ⟨_, iThn (iLen (iCons (iV rfl hW4) (iCons (iBes (iRep (iLen (iCons (iNum (nInt 0)) iNil)) (nNm rfl) (by omega))) iNil))), fun y G y1 t1 => ⟨n2, fun p hp => ?_⟩⟩
        have t2 := Same.new (o := HO.tup [V.str "ring", y]) hp
        have t3 := t1.trans t2
        have wy : Wr K (upd G p (.tup [V.str "ring", y])) (.rng (.thn [wt, .bes (List.replicate r (.box (.copy 0)))])) (.ref p) := ⟨p, y, rfl, SqT.of upd_same, y1.kt (Same.kt t2)⟩
        have e4 := t3 _ _ e3
        refine ⟨q3, _, _, rfl, rfl, e4, by show 6 < sizeLine; decide, ?_⟩
        have b4 := b3.kt (Same.kt t3)
        have s5 := s4.trans t3
        clear y1 t1 t2 t3 e3 b3 s4
        generalize upd G p (.tup [V.str "ring", y]) = G2 at wy e4 b4 s5 ⊢
        have kt : KT K G2 (upd G2 q3 (.lst ([x1, x2, x3] ++ [z1, z2, z3] ++ [.ref p]))) := (But.upd (H := G2) (b := q3)).kt (fun _ z => by rw [e4] at z; cases z) (fun _ _ z => by rw [e4] at z; cases z)
        exact ⟨vO, q3, _, rfl, upd_same, (b4.kt kt).app (.cons (wy.kt kt) (bad7 hs he r1 r6 l6) .nil), by simp, by simp, fun a o e => by rw [upd_ne (ne_of_none e f3)]; exact s5 _ _ e, f3⟩
      · exact ⟨vO, q3, _, rfl, e3, b3, by simp, by simp, s4, f3⟩
    clear e3 b3 s4 f3 s1 hO hW1
    rintro σ H5 ⟨vO, q, us, rfl, e5, b5, ne5, l5, s5, f5⟩
    refine ⟨_, iBes (iLen (iCons (iNum (nInt 4)) (iCons (iNum (nInt 4)) (iCons (iNum (nInt 4)) (iCons iB iNil))))), fun vA H6 hA s6 => ?_⟩
    refine ⟨_, iBes (iLen (iCons (iBes (iRep (iLen (iCons (iNum (nInt 0)) iNil)) (nInt 12) (by omega))) (iCons iB iNil))), fun vD H7 hD s7 => ?_⟩
    refine ⟨_, rfl, _, rfl, ⟨_, iThn (iLen (iCons (iV rfl (hA.kt (Same.kt s7))) (iCons (iV rfl hD) iNil))), fun z1 H8 y1 s8 => ⟨n1, fun p1 hp1 => ?_⟩⟩⟩
    have t4 := Same.new (o := HO.lst [z1]) hp1
    have s58 : Same H5 H8 := s6.trans (s7.trans s8)
    have e8 := s58 _ _ e5
    refine ⟨q, p1, us, [z1], rfl, rfl, t4 _ _ e8, upd_same, by rw [List.length_singleton]; exact Nat.le_trans (show us.length + 1 ≤ 1000 by omega) (by decide), fun p2 hp2 => ?_⟩
    have t5 := Same.new (o := HO.lst (us ++ [z1])) hp2
    have s0 := s5.trans (s58.trans (t4.trans t5))
    have bb : Bads K (upd (upd H8 p1 (.lst [z1])) p2 (.lst (us ++ [z1]))) (us ++ [z1]) := (b5.kt (Same.kt (s58.trans (t4.trans t5)))).app (.cons (y1.kt (Same.kt (t4.trans t5))) bad8 .nil)
    refine ⟨b, bl, p2, us ++ [z1], rfl, hB.same s0, SqL.of upd_same, (hB.same (s5.trans (s58.trans t4))).fresh hp2, by simp, by rw [List.length_append, List.length_singleton]; omega, fun x H9 hx hB9 k9 => ?_⟩
    obtain ⟨w9, h1, h2⟩ := bb x hx
    exact k x w9 H9 (h1.kt ((hB.same s0).kt k9)) h2 hB9 ((But.of s0).trans k9)
end
end L2.Lw

set_option Elab.async false
set_option linter.all false
set_option maxRecDepth 100000
namespace L2.Lw
open PySem PySem.Spec PyProof.Rows
abbrev i_LagError : Stmt := inClass c_LagError 0
abbrev i_Unshaped : Stmt := inClass c_Unshaped 0
theorem sc_iLag : FnScope ["self", "message", "word"] ["self", "message", "word"] (defScope i_LagError) := ⟨rfl, rfl, rfl, by decide +kernel, rfl, by decide +kernel, by decide +kernel⟩
theorem sc_iUnshap : FnScope ["self", "message"] ["self", "message"] (defScope i_Unshaped) := ⟨rfl, rfl, rfl, by decide +kernel, rfl, by decide +kernel, by decide +kernel⟩
section
variable {P : Program} {w : World} {K : PySem.W.Frag} {mg : Str → Option Value} {base : Heap}
theorem ok_iLag {f : Addr} {fd : FuncData} {dV : Value} (F : FunD K "__init__" "LagError.__init__" i_LagError dV f fd) (hV : mg "ValueError" = none) : FnOk P w K mg base CX0 1 f fd ["self", "message", "word"] (spLagI K) := by
  refine F.okX sc_iLag (fun vs H Q E h => ?_) (fun cdv A outer s H vs Q E hr h => ?_)
  · obtain ⟨e, C, m, wd, rfl, _⟩ := h; rfl
  · obtain ⟨e, C, m, wd, rfl, he, xc, ff, k⟩ := h
    refine ⟨_, pss_cons (ps_expr (pe_vinit (by rfl) hV (pa_cons (pv 0) (pa_cons (pv 1) pa_nil)))) (pss_one (ps_xset (pv 0) (pv 2))), ?_⟩
    exact ⟨_, rfl, _, rfl, e, C, none, m, rfl, he, xc, _, rfl, _, rfl, e, C, rfl, he, xc, ff, fun da h1 h2 => k da h1 h2⟩
theorem bd_iLag {f dt : Addr} {fd : FuncData} {odt : Option Addr} {dw : Value} {n : Nat} {sl : Array (Option Value)} (F : FunD K "__init__" "LagError.__init__" i_LagError (.ref dt) f fd) (lk : K.lookup dt = some ⟨.type "tuple", odt, .seq #[dw] n, sl⟩) : Binds K fd [("self" : Str), "message", "word"] [] := by
  obtain ⟨oc, od, kV, doc, pm, an, cdv, ct, osl, rfl, l, c⟩ := F.ex
  intro s us X hl
  have hu : us.length = 3 := by simpa using hl
  match us, hu with
  | [a, b, c], _ =>
    refine PySem.W.kp_binds X fun S => ?_
    generalize eB : bindArgs _ _ = B
    conv at eB => lhs; whnf
    subst eB
    unfold PySem.W.peek
    rw [lk]
    rfl
theorem ok_iUnshap {fL f BL : Addr} {fdL fd : FuncData} (FL : FnOk P w K mg base CX0 1 fL fdL ["self", "message", "word"] (spLagI K)) (bL : Binds K fdL [("self" : Str), "message", "word"] []) (cm : CMeth K BL "__init__" fL) (hmL : mg "LagError" = some (.ref BL)) (F : FunD K "__init__" "Unshaped.__init__" i_Unshaped .none f fd) :
    FnOk P w K mg base CX0 2 f fd ["self", "message"] (spBadI K "Unshaped") := by
  refine F.okX sc_iUnshap (fun vs H Q E h => ?_) (fun cdv A outer s H vs Q E hr h => ?_)
  · obtain ⟨e, C, m, rfl, _⟩ := h; rfl
  · obtain ⟨e, C, m, rfl, he, xc, ff, k⟩ := h
    refine ⟨_, pss_one (ps_expr (pe_ccall (by rfl) hmL cm FL (hr.mono (by omega)) bL .nil pass0 (pa_cons (pv 0) (pa_cons (pv 1) (pa_cons pe_str pa_nil))))), ?_⟩
    exact ⟨_, rfl, _, rfl, e, C, m, _, rfl, he, xc, ff, fun da h1 h2 => k da h1 h2⟩
theorem bd_iUnshap {f : Addr} {fd : FuncData} (F : FunD K "__init__" "Unshaped.__init__" i_Unshaped .none f fd) : Binds K fd [("self" : Str), "message"] [] := by
  obtain ⟨oc, od, kV, doc, pm, an, cdv, ct, osl, rfl, l, c⟩ := F.ex
  exact .all fun us hl => match us, hl with | [_, _], _ => rfl
end
theorem sc_tried : TrScope (defScope s_law_tried) := ⟨⟨rfl, rfl, rfl, by decide +kernel, rfl, by decide +kernel, by decide +kernel⟩, by decide +kernel, by decide +kernel, by decide +kernel, by decide +kernel, by decide +kernel⟩
theorem body_tried : TriedBody (defBody s_law_tried) := ⟨_, _, _, _, _, _, _, _, _, _, _, _, _, _, _, _, _, _, _, _, _, _, _, _, rfl⟩

/-! ### the table among the law's things -/
theorem Bag.lst {H : Hp} {b bl : Addr} (h : Bag H b bl) : ∃ xs, H b = some (.lst xs) := by obtain ⟨ns, i, c, s, n, h, _⟩ := h; exact ⟨_, h⟩
theorem TabI.bag {H H' : Hp} {T b bl : Addr} {q : Str} (t : TabI H T q) (hB : Bag H b bl) (k : But b H H') : TabI H' T q := by obtain ⟨xs, h⟩ := hB.lst; exact t.but k h
theorem TabI.at {H : Hp} {T : Addr} {q : Str} (t : TabI H T q) : ∃ ps, H T = some (.tbl ps) := by obtain ⟨ps, h, _⟩ := t; exact ⟨ps, h⟩
theorem SqT.but {K : PySem.W.Frag} {H H' : Hp} {a b : Addr} {xs ys : List V} (h : SqT K H a xs) (k : But b H H') (hb : H b = some (.lst ys)) : SqT K H' a xs := by
  rcases h with (h | ⟨o, h⟩) | h
  · exact .inl (.inl (k _ _ h fun z => by subst z; rw [hb] at h; cases h))
  · exact .inl (.inr ⟨o, k _ _ h fun z => by subst z; rw [hb] at h; cases h⟩)
  · exact .inr h
theorem SqT.bag {K : PySem.W.Frag} {H H' : Hp} {a b bl : Addr} {xs : List V} (h : SqT K H a xs) (hB : Bag H b bl) (k : But b H H') : SqT K H' a xs := by obtain ⟨ys, e⟩ := hB.lst; exact SqT.but h k e
theorem SqT.grow {K : PySem.W.Frag} {H H1 : Hp} {a T : Addr} {q : Str} {xs : List V} (h : SqT K H a xs) (t : TabI H T q) (g : Grow T q H H1) : SqT K H1 a xs := by
  obtain ⟨ps, e⟩ := t.at
  rcases h with (h | ⟨o, h⟩) | h
  · exact .inl (.inl (g.2 _ _ h fun z => by subst z; rw [e] at h; cases h))
  · exact .inl (.inr ⟨o, g.2 _ _ h fun z => by subst z; rw [e] at h; cases h⟩)
  · exact .inr h
theorem Bag.grow {T : Addr} {q : Str} {H H1 : Hp} (g : Grow T q H H1) (t : TabI H T q) {b bl : Addr} (h : Bag H b bl) : Bag H1 b bl := by
  obtain ⟨ps, e⟩ := t.at
  obtain ⟨ns, i, c, s, n, h1, h2, r⟩ := h
  exact ⟨ns, i, c, s, n, g.2 _ _ h1 (fun z => by subst z; rw [e] at h1; cases h1), g.2 _ _ h2 (fun z => by subst z; rw [e] at h2; cases h2), r⟩
abbrev qLam : Str := (("law" : Str) ++ ".<locals>.") ++ "<lambda>"
def spLaw (K : PySem.W.Frag) (Tb : Addr) : Sp := fun vs H Q _ => ∃ (a : Addr) (ns : List Int), vs = [.ref a] ∧ SqL K H a (ns.map V.int) ∧ ns.length ≤ 63 ∧ TabI H Tb qLam ∧ ∀ H', Q (.bl true) H'
/-! ### a row of acts -/
def Acts (X : Cx) (k : Nat) (H : Hp) (l : Addr) (fs : List (Addr × (XK → TE))) : Prop := H l = some (.lst (fs.map fun p => V.ref p.1)) ∧ ∀ p ∈ fs, LamAt X k H p.1 p.2
section
variable {X : Cx} {k i : Nat} {T l : Addr} {σ : St} {H : Hp} {fs : List (Addr × (XK → TE))} {tb : XK → TE} {Q : VK} {B1 B2 B3 : Addr}
/-- what an act says, tried: the word -/
def Says (X : Cx) (B1 B2 B3 : Addr) (tb : XK → TE) (σ : St) (H : Hp) (wd : Str) : Prop := ∀ (H' : Hp) (Q : VK), Same H H' → (∀ H2 fo, Same H' H2 → H2 fo = some (.tup [.str wd]) → Q (.ref fo) H2) → tb (EWord X.K B1 B2 B3 Q) σ H' (QTold Q)
/-- an error that comes, told -/
theorem comes_word {K : PySem.W.Frag} {H H' : Hp} {wd : Str} {C : Addr} {Q : VK} (pl : Plain K B1 B2 B3 C) (s : Same H H') (q : ∀ H2 fo, Same H H2 → H2 fo = some (.tup [.str wd]) → Q (.ref fo) H2) : Comes (EWord K B1 B2 B3 Q) H' wd C := fun da H2 s2 hda =>
  ⟨C, da, wd, [], rfl, rfl, hda, pl, fun fo hfo => q _ fo (s.trans (s2.trans (Same.new hfo))) upd_same⟩
/-- n tuples of one word each, held against one that is repeated -/
theorem dp_words {K : PySem.W.Frag} {wd : Str} : ∀ {rs : List Addr}, (∀ r ∈ rs, H r = some (.tup [.str wd])) → DpAll K H (rs.map V.ref) (List.replicate rs.length (.tuple [.str wd]))
  | [], _ => .nil
  | r :: rs, h => .cons (.tup (SqT.of (h r List.mem_cons_self)) (.cons (.str wd) .nil)) (dp_words fun x hx => h x (List.mem_cons_of_mem _ hx))
theorem eqv_words (wd : Str) : ∀ n, PyData.eqvAll (List.replicate n (.tuple [.str wd])) (List.replicate n (.tuple [.str wd])) = true
  | 0 => by simp [PyData.eqvAll]
  | n + 1 => by rw [List.replicate_succ]; simp [PyData.eqvAll, PyData.eqv, eqv_words wd n]
end
/-- what a row of acts leaves as it was -/
def KP (T l : Addr) (H H' : Hp) : Prop := ∀ b o, H b = some o → b ≠ T → b ≠ l → H' b = some o
theorem KP.trans {T l : Addr} {H H1 H2 : Hp} (x : KP T l H H1) (y : KP T l H1 H2) : KP T l H H2 := fun b o e n m => y b o (x b o e n m) n m
theorem KP.tup {K : PySem.W.Frag} {T l a : Addr} {H H' : Hp} {xs ys : List V} {ps : Array Value} (x : KP T l H H') (hT : H T = some (.tbl ps)) (hl : H l = some (.lst ys)) (h : SqT K H a xs) : SqT K H' a xs := by
  rcases h with (h | ⟨o, h⟩) | h
  · exact .inl (.inl (x _ _ h (fun z => by subst z; rw [hT] at h; cases h) fun z => by subst z; rw [hl] at h; cases h))
  · exact .inl (.inr ⟨o, x _ _ h (fun z => by subst z; rw [hT] at h; cases h) fun z => by subst z; rw [hl] at h; cases h⟩)
  · exact .inr h
theorem KP.bag {T l b bl : Addr} {H H' : Hp} {ps : Array Value} (x : KP T l H H') (hT : H T = some (.tbl ps)) (n1 : b ≠ l) (n2 : bl ≠ l) (h : Bag H b bl) : Bag H' b bl := by
  obtain ⟨ns, i, c, s, n, h1, h2, r⟩ := h
  exact ⟨ns, i, c, s, n, x _ _ h1 (fun z => by subst z; rw [hT] at h1; cases h1) n1, x _ _ h2 (fun z => by subst z; rw [hT] at h2; cases h2) n2, r⟩
theorem Bag.neN {H : Hp} {b bl l : Addr} (h : Bag H b bl) (hl : H l = none) : b ≠ l ∧ bl ≠ l := by
  obtain ⟨ns, i, c, s, n, h1, h2, r⟩ := h
  exact ⟨ne_of_none h1 hl, ne_of_none h2 hl⟩
section
variable {X : Cx} {k : Nat} {T l f : Addr} {σ : St} {H H1 : Hp} {fs : List (Addr × (XK → TE))} {tb : XK → TE} {q : Str} {B1 B2 B3 : Addr}
theorem acts_one (la : LamAt X k H f tb) (hl : H l = none) : Acts X k (upd H l (.lst [.ref f])) l [(f, tb)] :=
  ⟨upd_same, fun p hp => by rw [List.mem_singleton.mp hp]; exact la.same (Same.new hl)⟩
theorem grow_free (g : Grow T q H H1) (hl : H1 l = none) : H l = none := by
  cases e : H l with
  | none => rfl
  | some o =>
    by_cases z : l = T
    · obtain ⟨ps, e2, _⟩ := g.1; rw [z, e2] at hl; cases hl
    · rw [g.2 l o e z] at hl; cases hl
theorem grow_new {o : HO} (g : Grow T q H H1) (hl : H1 l = none) : Grow T q H (upd H1 l o) := ⟨g.1.same (Same.new hl), fun b u e n => Same.new hl b u (g.2 b u e n)⟩
theorem acts_at (hA : Acts X k H l fs) (tab : TabI H T q) (g : Grow T q H H1) : H1 l = some (.lst (fs.map fun p => V.ref p.1)) :=
  g.2 _ _ hA.1 fun z => by obtain ⟨ps, e, _⟩ := tab; subst z; rw [hA.1] at e; cases e
theorem acts_app (hA : Acts X k H l fs) (tab : TabI H T q) (g : Grow T q H H1) (la : LamAt X k H1 f tb) :
    Acts X k (upd H1 l (.lst ((fs.map fun p => V.ref p.1) ++ [.ref f]))) l (fs ++ [(f, tb)]) ∧ TabI (upd H1 l (.lst ((fs.map fun p => V.ref p.1) ++ [.ref f]))) T q ∧ KP T l H (upd H1 l (.lst ((fs.map fun p => V.ref p.1) ++ [.ref f]))) := by
  have h1 := acts_at hA tab g
  have kp : But l H1 (upd H1 l (.lst ((fs.map fun p => V.ref p.1) ++ [.ref f]))) := But.upd
  refine ⟨⟨by rw [upd_same, List.map_append]; rfl, fun p hp => ?_⟩, g.1.but kp h1, fun b o e n1 n2 => kp b o (g.2 b o e n1) n2⟩
  rcases List.mem_append.mp hp with hp | hp
  · exact ((hA.2 p hp).grow tab g).but kp h1
  · rw [List.mem_singleton.mp hp]; exact la.but kp h1
theorem acts_lc {K : PySem.W.Frag} {wd : Str} {j : Nat} {D : Addr} {Qd : Hp → Prop} (hK : X.K = K) (hD : H D = none) (hj : j < σ.length) (hA : Acts X k H l fs) (hz : fs.length ≤ 50) (says : ∀ p ∈ fs, Says X B1 B2 B3 p.2 σ H wd)
    (nx : ∀ (rs : List Addr) (H' : Hp), Same H H' → H' D = some (.lst (rs.map V.ref)) → rs.length = fs.length → (∀ r ∈ rs, H' r = some (.tup [.str wd])) → Qd H') :
    ∃ W : Nat → Nat → Hp → Prop, (∃ m, W 0 m (upd H D (.lst []))) ∧ ∀ i m H, W i m H →
      ((Itl K l).stop i H ∧ Qd H) ∨ ((Itl K l).go i H ∧ ∃ Nx : Hp → Prop, (∀ H', Nx H' → ∃ m', m' < m ∧ W (i + 1) m' H') ∧ ∀ x H', (Itl K l).yld i H x H' → gName j x (wipe σ [j]) H' fun σ2 H2 => wipe σ2 [j] = wipe σ [j] ∧ tYes σ2 H2 fun b H3 =>
        if b = true then tTriedV X k B1 B2 B3 j σ σ2 H3 fun y H4 => ∃ acc, H4 D = some (.lst acc) ∧ acc.length < sizeLine ∧ Nx (upd H4 D (.lst (acc ++ [y]))) else Nx H3) := by
  subst hK
  refine lc_list (K := X.K) (a := l) (xs := fs.map fun p => V.ref p.1) (fun n H' => ∃ rs : List Addr, rs.length = n ∧ H' D = some (.lst (rs.map V.ref)) ∧ (∀ r ∈ rs, H' r = some (.tup [.str wd])) ∧ Same H H') ⟨[], rfl, upd_same, by simp, Same.new hD⟩ (fun n H' _ p => ?_) (fun n x H' hx p => ?_) fun H' p => ?_
  · obtain ⟨rs, _, _, _, s1⟩ := p; exact SqL.of (s1 _ _ hA.1)
  · obtain ⟨rs, hl, hDl, hr, s1⟩ := p
    rw [List.getElem?_map] at hx
    obtain ⟨p, hp, rfl⟩ : ∃ p, fs[n]? = some p ∧ x = V.ref p.1 := by
      cases e : fs[n]? with
      | none => rw [e] at hx; cases hx
      | some p => rw [e] at hx; exact ⟨p, rfl, (Option.some.inj hx).symm⟩
    have hm := List.mem_of_getElem? hp
    have hn : n < fs.length := (List.getElem?_eq_some_iff.mp hp).1
    have hj' : j < (wipe σ [j]).length := by rw [wipe_length]; exact hj
    refine ⟨?_, yes_if ⟨p.1, p.2, by rw [List.getElem?_set_self hj'], (hA.2 p hm).same s1, says p hm H' _ s1 fun H2 fo s2 hfo => ⟨_, s2 _ _ hDl, ?_, rs ++ [fo], by simp [hl], ?_, fun r hr' => ?_, fun b o e => ?_⟩⟩⟩
    · show ((σ.set j none).set j (some (V.ref p.1))).set j none = σ.set j none
      rw [List.set_set, List.set_set]
    · rw [List.length_map, hl]; exact Nat.lt_of_lt_of_le hn (Nat.le_trans hz (by decide))
    · rw [upd_same, List.map_append]; rfl
    · have hne : ∀ r, H2 r = some (.tup [.str wd]) → r ≠ D := fun r e z => by rw [z, s2 _ _ hDl] at e; cases e
      rcases List.mem_append.mp hr' with z | z
      · have := s2 _ _ (hr r z); rw [upd_ne (hne r this)]; exact this
      · rw [List.mem_singleton.mp z, upd_ne (hne fo hfo)]; exact hfo
    · rw [upd_ne (ne_of_none e hD)]; exact s2 _ _ (s1 _ _ e)
  · obtain ⟨rs, hl, hDl, hr, s1⟩ := p
    rw [List.length_map] at hl
    exact nx rs H' s1 hDl hl hr
theorem rne_words {K : PySem.W.Frag} {wd : Str} {D e1 e3 : Addr} {rs : List Addr} {n : Nat} {Q : VK} (hw : SeqAt.shaped (.list (List.replicate n (.tuple [.str wd]))) = true) (hD : H D = some (.lst (rs.map V.ref))) (hl : rs.length = n) (hr : ∀ r ∈ rs, H r = some (.tup [.str wd])) (g1 : H e1 = some (.tup [.str wd]))
    (g3 : H e3 = some (.lst ((List.replicate n e1).map V.ref))) (q' : Q (.bl false) H) : rNeD K (.ref D) (.ref e3) H Q := by
  have d1 : DpAll K H (rs.map V.ref) (List.replicate n (.tuple [.str wd])) := by rw [← hl]; exact dp_words hr
  have d2 : DpAll K H ((List.replicate n e1).map V.ref) (List.replicate n (.tuple [.str wd])) := by
    have z := dp_words (K := K) (wd := wd) (H := H) (rs := List.replicate n e1) fun r hx => by rw [List.eq_of_mem_replicate hx]; exact g1
    rwa [List.length_replicate] at z
  refine ⟨_, _, .lst (SqL.of hD) d1, .lst (SqL.of g3) d2, hw, hw, ?_⟩
  rw [show PyData.eqv (.list (List.replicate n (.tuple [.str wd]))) (.list (List.replicate n (.tuple [.str wd]))) = true from by simp only [PyData.eqv, eqv_words]]
  exact q'
end
end L2.Lw

set_option Elab.async false
set_option linter.all false
set_option maxRecDepth 100000
namespace L2.Lw
open PySem PySem.Spec PyProof.Rows
theorem noN (x : V) (h : x ≠ .non) {A B : Prop} (hb : B) : if decide (x = V.non) = true then A else B := by
  rw [decide_eq_false h]; exact iteF hb
/-- the same number, the same truth -/
def spSame0 : Sp := fun vs H Q _ => ∃ (x : V), vs = [x, x] ∧ (∃ i, x = .int i) ∧ ∀ H', Same H H' → Q (.bl true) H'
def spSameB : Sp := fun vs H Q _ => ∃ (b : Bool), vs = [.bl b, .bl b] ∧ ∀ H', Same H H' → Q (.bl true) H'
/-- two tuples, two lists, whose things are the same by sp -/
def spSameT (K : PySem.W.Frag) (sp : Sp) : Sp := fun vs H Q _ => ∃ (t u : Addr) (xs ys : List V), vs = [.ref t, .ref u] ∧ SqT K H t xs ∧ SqT K H u ys ∧ xs.length = ys.length ∧ xs.length ≤ 1000 ∧
  (∀ (n : Nat) (x y : V) (H' : Hp) (Q' : VK), xs[n]? = some x → ys[n]? = some y → Same H H' → (∀ H'', Same H' H'' → Q' (.bl true) H'') → sp [x, y] H' Q' E0) ∧ ∀ H', Same H H' → Q (.bl true) H'
def spSameL (sp : Sp) : Sp := fun vs H Q _ => ∃ (t u : Addr) (xs ys : List V), vs = [.ref t, .ref u] ∧ H t = some (.lst xs) ∧ H u = some (.lst ys) ∧ xs.length = ys.length ∧ xs.length ≤ 1000 ∧
  (∀ (n : Nat) (x y : V) (H' : Hp) (Q' : VK), xs[n]? = some x → ys[n]? = some y → Same H H' → (∀ H'', Same H' H'' → Q' (.bl true) H'') → sp [x, y] H' Q' E0) ∧ ∀ H', Same H H' → Q (.bl true) H'
theorem all_range_true (n : Nat) : ((List.range n).map fun _ => true).all id = true := by simp
section
variable {P : Program} {w : World} {K : PySem.W.Frag} {mg : Str → Option Value} {base : Heap}
theorem fn_or {CX : CXT} {k : Nat} {f : Addr} {fd : FuncData} {ps : List Str} {sp sp' : Sp} (F : FnOk P w K mg base CX k f fd ps sp) (F' : FnOk P w K mg base CX k f fd ps sp') : FnOk P w K mg base CX k f fd ps (fun vs H Q E => sp vs H Q E ∨ sp' vs H Q E) :=
  ⟨fun vs H Q E h => h.elim (F.len vs H Q E) (F'.len vs H Q E), fun A outer s H args us vs Q E hr he hb hv hs => hs.elim (F.run A outer s H args us vs Q E hr he hb hv) (F'.run A outer s H args us vs Q E hr he hb hv)⟩
theorem sc_law_same : FnScope ["_law_got", "_law_due", "_law_good", "_law_a", "_law_b"] ["_law_got", "_law_due"] (defScope s_law_same) := ⟨rfl, rfl, rfl, by decide +kernel, rfl, by decide +kernel, by decide +kernel⟩
theorem fn_same0 {f : Addr} {fd : FuncData} (F : Fun K "_law_same" "_law_same" s_law_same f fd) (hm : mg "_law_same" = some (.ref f)) (bd : Binds K fd ["_law_got", "_law_due"] []) (T : Bi mg) : FnOk P w K mg base CX0 1 f fd ["_law_got", "_law_due"] spSame0 := by
  refine F.ok sc_law_same (fun vs H Q E h => ?_) (fun cdv A outer s H vs Q E hr h => ?_)
  · obtain ⟨x, rfl, _⟩ := h; rfl
  · obtain ⟨x, rfl, ⟨i, rfl⟩, k⟩ := h
    have nd := sc_law_same.nd
    have c_law_same : Cal P w K mg base "_law_same" 0 ["_law_got", "_law_due"] (fun _ _ _ _ => False) (Pla K ["_law_got", "_law_due"]) := ⟨f, fd, ⟨fun _ _ _ _ z => z.elim, fun _ _ _ _ _ _ _ _ _ _ _ _ _ z => z.elim⟩, hm, F.kp, bd⟩
    refine ⟨_, (pss_cons (ps_if (PW.pt (pw_or (pt_cmpR op_isN (pv 1) pe_non (nomark _)) (pw_or1 (pt_cmpR op_isN (pv 0) pe_non (nomark _))))) (pss_one (ps_ret (pe_and (pe_cmpR op_isN (pv 0) pe_non (nomark _)) (pe_one (pe_cmpR op_isN (pv 1) pe_non (nomark _)))))) pss_nil)
      (pss_cons (ps_if (pt_val (pe_callB (isiKT K) (by rfl) T.isinstance (by decide +kernel) (pa_cons (pv 1) (pa_cons (pe_tup (pa_cons (pe_ty "list" (by rfl) T.list (by decide +kernel)) (pa_cons (pe_ty "tuple" (by rfl) T.tuple (by decide +kernel)) pa_nil))) pa_nil)))) (pss_cons (ps_if (pt_cmpR op_ne (pe_callB (isiK1 K) (by rfl) T.isinstance (by decide +kernel) (pa_cons (pv 0) (pa_cons (pe_ty "list" (by rfl) T.list (by decide +kernel)) pa_nil))) (pe_callB (isiK1 K) (by rfl) T.isinstance (by decide +kernel) (pa_cons (pv 1) (pa_cons (pe_ty "list" (by rfl) T.list (by decide +kernel)) pa_nil))) (nomark _)) (pss_one (ps_ret pe_bl)) pss_nil)
      (pss_cons (ps_set (i := 2) nd rfl (by first | exact Or.inl rfl | exact Or.inr rfl) (pe_and (pe_callB (isiKT K) (by rfl) T.isinstance (by decide +kernel) (pa_cons (pv 0) (pa_cons (pe_tup (pa_cons (pe_ty "list" (by rfl) T.list (by decide +kernel)) (pa_cons (pe_ty "tuple" (by rfl) T.tuple (by decide +kernel)) pa_nil))) pa_nil))) (pe_one (pe_cmpR op_eq (pe_callB (lenS K) (by rfl) T.len (by decide +kernel) (pa_cons (pv 0) pa_nil)) (pe_callB (lenS K) (by rfl) T.len (by decide +kernel) (pa_cons (pv 1) pa_nil)) (nomark _)))))
      (pss_one (ps_ret (pe_and (pv 2) (pe_one (pe_callB (allK K) (by rfl) T.all (by decide +kernel) (pa_cons (pe_lc (own := [("_law_a", 3), ("_law_b", 4)]) (g := _) (by rfl) nd (pi_zipT (by rfl) T.zip (pa_cons (pv 0) (pa_cons (pv 1) pa_nil))) (blkOk_by (own := [("_law_a", 3), ("_law_b", 4)]) (N := ["_law_got", "_law_due", "_law_good", "_law_a", "_law_b"]) (sc := defScope s_law_same) (by decide +kernel)) (fun _ _ _ _ _ => (pgT K 2 rfl (pgs_cons (pg_name (i := 3) nd rfl (by first | exact Or.inl rfl | exact Or.inr rfl)) (pgs_cons (pg_name (i := 4) nd rfl (by first | exact Or.inl rfl | exact Or.inr rfl)) pgs_nil)))) (fun _ _ _ _ _ => pts_nil) (fun _ _ _ _ _ => (pcall c_law_same (hr.mono (by omega)) (pa_cons (pv 3) (pa_cons (pv 4) pa_nil))))) pa_nil)))))))) pss_nil)
      (pss_cons (ps_if (PW.pt (pw_or (pt_cmpR op_ne (pe_callB (isiK1 K) (by rfl) T.isinstance (by decide +kernel) (pa_cons (pv 0) (pa_cons (pe_ty "bool" (by rfl) T.bool (by decide +kernel)) pa_nil))) (pe_callB (isiK1 K) (by rfl) T.isinstance (by decide +kernel) (pa_cons (pv 1) (pa_cons (pe_ty "bool" (by rfl) T.bool (by decide +kernel)) pa_nil))) (nomark _)) (pw_or1 (pt_cmpR op_ne (pe_callB (isiK1 K) (by rfl) T.isinstance (by decide +kernel) (pa_cons (pv 0) (pa_cons (pe_ty "int" (by rfl) T.int (by decide +kernel)) pa_nil))) (pe_callB (isiK1 K) (by rfl) T.isinstance (by decide +kernel) (pa_cons (pv 1) (pa_cons (pe_ty "int" (by rfl) T.int (by decide +kernel)) pa_nil))) (nomark _))))) (pss_one (ps_ret pe_bl)) pss_nil)
      (pss_one (ps_ret (pe_and (pe_cmpR op_eq (pe_callB (isiK1 K) (by rfl) T.isinstance (by decide +kernel) (pa_cons (pv 0) (pa_cons (pe_ty "str" (by rfl) T.str (by decide +kernel)) pa_nil))) (pe_callB (isiK1 K) (by rfl) T.isinstance (by decide +kernel) (pa_cons (pv 1) (pa_cons (pe_ty "str" (by rfl) T.str (by decide +kernel)) pa_nil))) (nomark _)) (pe_one (pe_cmpR op_eq (pv 0) (pv 1) (nomark _))))))))), ?_⟩
    refine ⟨_, rfl, rfl, _, rfl, noN _ (by intro z; cases z) ⟨_, rfl, rfl, _, rfl, noN _ (by intro z; cases z) ?_⟩⟩
    refine ⟨_, rfl, (by show 2 ≤ sizeLine; decide), fun p hp => ⟨_, p, "list", "tuple", "int", false, rfl, .inl (.int i), upd_same, kit_int_lt K, _, rfl, iteF ?_⟩⟩
    refine ⟨_, rfl, _, "bool", "int", false, rfl, .inl (.int i), kit_int_bool K, _, rfl, _, "bool", "int", false, rfl, .inl (.int i), kit_int_bool K, rfl, _, rfl, iteNS rfl ?_⟩
    refine ⟨_, rfl, _, "int", "int", true, rfl, .inl (.int i), kit_int_int K, _, rfl, _, "int", "int", true, rfl, .inl (.int i), kit_int_int K, rfl, _, rfl, iteNS rfl ?_⟩
    refine ⟨_, rfl, _, "str", "int", false, rfl, .inl (.int i), kit_int_str K, _, rfl, _, "str", "int", false, rfl, .inl (.int i), kit_int_str K, rfl, _, rfl, ?_⟩
    rw [if_pos (by simp)]
    refine ⟨_, rfl, _, rfl, by simp [scal], ?_⟩
    rw [decide_eq_true rfl]
    exact k _ (Same.new hp)
theorem fn_sameB {f : Addr} {fd : FuncData} (F : Fun K "_law_same" "_law_same" s_law_same f fd) (hm : mg "_law_same" = some (.ref f)) (bd : Binds K fd ["_law_got", "_law_due"] []) (T : Bi mg) : FnOk P w K mg base CX0 1 f fd ["_law_got", "_law_due"] spSameB := by
  refine F.ok sc_law_same (fun vs H Q E h => ?_) (fun cdv A outer s H vs Q E hr h => ?_)
  · obtain ⟨x, rfl, _⟩ := h; rfl
  · obtain ⟨i, rfl, k⟩ := h
    have nd := sc_law_same.nd
    have c_law_same : Cal P w K mg base "_law_same" 0 ["_law_got", "_law_due"] (fun _ _ _ _ => False) (Pla K ["_law_got", "_law_due"]) := ⟨f, fd, ⟨fun _ _ _ _ z => z.elim, fun _ _ _ _ _ _ _ _ _ _ _ _ _ z => z.elim⟩, hm, F.kp, bd⟩
    refine ⟨_, (pss_cons (ps_if (PW.pt (pw_or (pt_cmpR op_isN (pv 1) pe_non (nomark _)) (pw_or1 (pt_cmpR op_isN (pv 0) pe_non (nomark _))))) (pss_one (ps_ret (pe_and (pe_cmpR op_isN (pv 0) pe_non (nomark _)) (pe_one (pe_cmpR op_isN (pv 1) pe_non (nomark _)))))) pss_nil)
      (pss_cons (ps_if (pt_val (pe_callB (isiKT K) (by rfl) T.isinstance (by decide +kernel) (pa_cons (pv 1) (pa_cons (pe_tup (pa_cons (pe_ty "list" (by rfl) T.list (by decide +kernel)) (pa_cons (pe_ty "tuple" (by rfl) T.tuple (by decide +kernel)) pa_nil))) pa_nil)))) (pss_cons (ps_if (pt_cmpR op_ne (pe_callB (isiK1 K) (by rfl) T.isinstance (by decide +kernel) (pa_cons (pv 0) (pa_cons (pe_ty "list" (by rfl) T.list (by decide +kernel)) pa_nil))) (pe_callB (isiK1 K) (by rfl) T.isinstance (by decide +kernel) (pa_cons (pv 1) (pa_cons (pe_ty "list" (by rfl) T.list (by decide +kernel)) pa_nil))) (nomark _)) (pss_one (ps_ret pe_bl)) pss_nil)
      (pss_cons (ps_set (i := 2) nd rfl (by first | exact Or.inl rfl | exact Or.inr rfl) (pe_and (pe_callB (isiKT K) (by rfl) T.isinstance (by decide +kernel) (pa_cons (pv 0) (pa_cons (pe_tup (pa_cons (pe_ty "list" (by rfl) T.list (by decide +kernel)) (pa_cons (pe_ty "tuple" (by rfl) T.tuple (by decide +kernel)) pa_nil))) pa_nil))) (pe_one (pe_cmpR op_eq (pe_callB (lenS K) (by rfl) T.len (by decide +kernel) (pa_cons (pv 0) pa_nil)) (pe_callB (lenS K) (by rfl) T.len (by decide +kernel) (pa_cons (pv 1) pa_nil)) (nomark _)))))
      (pss_one (ps_ret (pe_and (pv 2) (pe_one (pe_callB (allK K) (by rfl) T.all (by decide +kernel) (pa_cons (pe_lc (own := [("_law_a", 3), ("_law_b", 4)]) (g := _) (by rfl) nd (pi_zipT (by rfl) T.zip (pa_cons (pv 0) (pa_cons (pv 1) pa_nil))) (blkOk_by (own := [("_law_a", 3), ("_law_b", 4)]) (N := ["_law_got", "_law_due", "_law_good", "_law_a", "_law_b"]) (sc := defScope s_law_same) (by decide +kernel)) (fun _ _ _ _ _ => (pgT K 2 rfl (pgs_cons (pg_name (i := 3) nd rfl (by first | exact Or.inl rfl | exact Or.inr rfl)) (pgs_cons (pg_name (i := 4) nd rfl (by first | exact Or.inl rfl | exact Or.inr rfl)) pgs_nil)))) (fun _ _ _ _ _ => pts_nil) (fun _ _ _ _ _ => (pcall c_law_same (hr.mono (by omega)) (pa_cons (pv 3) (pa_cons (pv 4) pa_nil))))) pa_nil)))))))) pss_nil)
      (pss_cons (ps_if (PW.pt (pw_or (pt_cmpR op_ne (pe_callB (isiK1 K) (by rfl) T.isinstance (by decide +kernel) (pa_cons (pv 0) (pa_cons (pe_ty "bool" (by rfl) T.bool (by decide +kernel)) pa_nil))) (pe_callB (isiK1 K) (by rfl) T.isinstance (by decide +kernel) (pa_cons (pv 1) (pa_cons (pe_ty "bool" (by rfl) T.bool (by decide +kernel)) pa_nil))) (nomark _)) (pw_or1 (pt_cmpR op_ne (pe_callB (isiK1 K) (by rfl) T.isinstance (by decide +kernel) (pa_cons (pv 0) (pa_cons (pe_ty "int" (by rfl) T.int (by decide +kernel)) pa_nil))) (pe_callB (isiK1 K) (by rfl) T.isinstance (by decide +kernel) (pa_cons (pv 1) (pa_cons (pe_ty "int" (by rfl) T.int (by decide +kernel)) pa_nil))) (nomark _))))) (pss_one (ps_ret pe_bl)) pss_nil)
      (pss_one (ps_ret (pe_and (pe_cmpR op_eq (pe_callB (isiK1 K) (by rfl) T.isinstance (by decide +kernel) (pa_cons (pv 0) (pa_cons (pe_ty "str" (by rfl) T.str (by decide +kernel)) pa_nil))) (pe_callB (isiK1 K) (by rfl) T.isinstance (by decide +kernel) (pa_cons (pv 1) (pa_cons (pe_ty "str" (by rfl) T.str (by decide +kernel)) pa_nil))) (nomark _)) (pe_one (pe_cmpR op_eq (pv 0) (pv 1) (nomark _))))))))), ?_⟩
    refine ⟨_, rfl, rfl, _, rfl, noN _ (by intro z; cases z) ⟨_, rfl, rfl, _, rfl, noN _ (by intro z; cases z) ?_⟩⟩
    refine ⟨_, rfl, (by show 2 ≤ sizeLine; decide), fun p hp => ⟨_, p, "list", "tuple", "bool", false, rfl, .inl (.bl i), upd_same, kit_bool_lt K, _, rfl, iteF ?_⟩⟩
    refine ⟨_, rfl, _, "bool", "bool", true, rfl, .inl (.bl i), kit_bool_bool K, _, rfl, _, "bool", "bool", true, rfl, .inl (.bl i), kit_bool_bool K, rfl, _, rfl, iteNS rfl ?_⟩
    refine ⟨_, rfl, _, "int", "bool", true, rfl, .inl (.bl i), kit_bool_int K, _, rfl, _, "int", "bool", true, rfl, .inl (.bl i), kit_bool_int K, rfl, _, rfl, iteNS rfl ?_⟩
    refine ⟨_, rfl, _, "str", "bool", false, rfl, .inl (.bl i), kit_bool_str K, _, rfl, _, "str", "bool", false, rfl, .inl (.bl i), kit_bool_str K, rfl, _, rfl, ?_⟩
    rw [if_pos (by simp)]
    refine ⟨_, rfl, _, rfl, by simp [scal], ?_⟩
    rw [decide_eq_true rfl]
    exact k _ (Same.new hp)
theorem fn_sameT {n : Nat} {sp : Sp} {f : Addr} {fd : FuncData} (F : Fun K "_law_same" "_law_same" s_law_same f fd) (T : Bi mg) (c_law_same : Cal P w K mg base "_law_same" n ["_law_got", "_law_due"] sp (Pla K ["_law_got", "_law_due"])) : FnOk P w K mg base CX0 (n+1) f fd ["_law_got", "_law_due"] (spSameT K sp) := by
  refine F.ok sc_law_same (fun vs H Q E h => ?_) (fun cdv A outer s H vs Q E hr h => ?_)
  · obtain ⟨t, u, xs, ys, rfl, _⟩ := h; rfl
  · obtain ⟨t, u, xs, ys, rfl, ht, hu, hl, hn, hsp, k⟩ := h
    have nd := sc_law_same.nd
    refine ⟨_, (pss_cons (ps_if (PW.pt (pw_or (pt_cmpR op_isN (pv 1) pe_non (nomark _)) (pw_or1 (pt_cmpR op_isN (pv 0) pe_non (nomark _))))) (pss_one (ps_ret (pe_and (pe_cmpR op_isN (pv 0) pe_non (nomark _)) (pe_one (pe_cmpR op_isN (pv 1) pe_non (nomark _)))))) pss_nil)
      (pss_cons (ps_if (pt_val (pe_callB (isiKT K) (by rfl) T.isinstance (by decide +kernel) (pa_cons (pv 1) (pa_cons (pe_tup (pa_cons (pe_ty "list" (by rfl) T.list (by decide +kernel)) (pa_cons (pe_ty "tuple" (by rfl) T.tuple (by decide +kernel)) pa_nil))) pa_nil)))) (pss_cons (ps_if (pt_cmpR op_ne (pe_callB (isiK1 K) (by rfl) T.isinstance (by decide +kernel) (pa_cons (pv 0) (pa_cons (pe_ty "list" (by rfl) T.list (by decide +kernel)) pa_nil))) (pe_callB (isiK1 K) (by rfl) T.isinstance (by decide +kernel) (pa_cons (pv 1) (pa_cons (pe_ty "list" (by rfl) T.list (by decide +kernel)) pa_nil))) (nomark _)) (pss_one (ps_ret pe_bl)) pss_nil)
      (pss_cons (ps_set (i := 2) nd rfl (by first | exact Or.inl rfl | exact Or.inr rfl) (pe_and (pe_callB (isiKT K) (by rfl) T.isinstance (by decide +kernel) (pa_cons (pv 0) (pa_cons (pe_tup (pa_cons (pe_ty "list" (by rfl) T.list (by decide +kernel)) (pa_cons (pe_ty "tuple" (by rfl) T.tuple (by decide +kernel)) pa_nil))) pa_nil))) (pe_one (pe_cmpR op_eq (pe_callB (lenS K) (by rfl) T.len (by decide +kernel) (pa_cons (pv 0) pa_nil)) (pe_callB (lenS K) (by rfl) T.len (by decide +kernel) (pa_cons (pv 1) pa_nil)) (nomark _)))))
      (pss_one (ps_ret (pe_and (pv 2) (pe_one (pe_callB (allK K) (by rfl) T.all (by decide +kernel) (pa_cons (pe_lc (own := [("_law_a", 3), ("_law_b", 4)]) (g := _) (by rfl) nd (pi_zipT (by rfl) T.zip (pa_cons (pv 0) (pa_cons (pv 1) pa_nil))) (blkOk_by (own := [("_law_a", 3), ("_law_b", 4)]) (N := ["_law_got", "_law_due", "_law_good", "_law_a", "_law_b"]) (sc := defScope s_law_same) (by decide +kernel)) (fun _ _ _ _ _ => (pgT K 2 rfl (pgs_cons (pg_name (i := 3) nd rfl (by first | exact Or.inl rfl | exact Or.inr rfl)) (pgs_cons (pg_name (i := 4) nd rfl (by first | exact Or.inl rfl | exact Or.inr rfl)) pgs_nil)))) (fun _ _ _ _ _ => pts_nil) (fun _ _ _ _ _ => (pcall c_law_same (hr.mono (by omega)) (pa_cons (pv 3) (pa_cons (pv 4) pa_nil))))) pa_nil)))))))) pss_nil)
      (pss_cons (ps_if (PW.pt (pw_or (pt_cmpR op_ne (pe_callB (isiK1 K) (by rfl) T.isinstance (by decide +kernel) (pa_cons (pv 0) (pa_cons (pe_ty "bool" (by rfl) T.bool (by decide +kernel)) pa_nil))) (pe_callB (isiK1 K) (by rfl) T.isinstance (by decide +kernel) (pa_cons (pv 1) (pa_cons (pe_ty "bool" (by rfl) T.bool (by decide +kernel)) pa_nil))) (nomark _)) (pw_or1 (pt_cmpR op_ne (pe_callB (isiK1 K) (by rfl) T.isinstance (by decide +kernel) (pa_cons (pv 0) (pa_cons (pe_ty "int" (by rfl) T.int (by decide +kernel)) pa_nil))) (pe_callB (isiK1 K) (by rfl) T.isinstance (by decide +kernel) (pa_cons (pv 1) (pa_cons (pe_ty "int" (by rfl) T.int (by decide +kernel)) pa_nil))) (nomark _))))) (pss_one (ps_ret pe_bl)) pss_nil)
      (pss_one (ps_ret (pe_and (pe_cmpR op_eq (pe_callB (isiK1 K) (by rfl) T.isinstance (by decide +kernel) (pa_cons (pv 0) (pa_cons (pe_ty "str" (by rfl) T.str (by decide +kernel)) pa_nil))) (pe_callB (isiK1 K) (by rfl) T.isinstance (by decide +kernel) (pa_cons (pv 1) (pa_cons (pe_ty "str" (by rfl) T.str (by decide +kernel)) pa_nil))) (nomark _)) (pe_one (pe_cmpR op_eq (pv 0) (pv 1) (nomark _))))))))), ?_⟩
    refine ⟨_, rfl, rfl, _, rfl, noN _ (by intro z; cases z) ⟨_, rfl, rfl, _, rfl, noN _ (by intro z; cases z) ?_⟩⟩
    refine ⟨_, rfl, (by show 2 ≤ sizeLine; decide), fun p hp => ⟨_, p, "list", "tuple", "tuple", true, rfl, .inr ⟨rfl, _, _, rfl, Same.tup (Same.new hp) hu⟩, upd_same, kit_tuple_lt K, _, rfl, iteT ?_⟩⟩
    have s1 : Same H (upd H p (.tup [.ty "list", .ty "tuple"])) := Same.new hp
    generalize upd H p (.tup [.ty "list", .ty "tuple"]) = H1 at s1 ⊢
    refine ⟨_, rfl, _, "list", "tuple", false, rfl, .inr ⟨rfl, _, _, rfl, Same.tup s1 ht⟩, kit_tuple_list K, _, rfl, _, "list", "tuple", false, rfl, .inr ⟨rfl, _, _, rfl, Same.tup s1 hu⟩, kit_tuple_list K, rfl, _, rfl, iteNS rfl ?_⟩
    refine ⟨_, rfl, (by show 2 ≤ sizeLine; decide), fun q hq => ⟨_, q, "list", "tuple", "tuple", true, rfl, .inr ⟨rfl, _, _, rfl, Same.tup (s1.trans (Same.new hq)) ht⟩, upd_same, kit_tuple_lt K, _, rfl, iteT ?_⟩⟩
    have s2 : Same H (upd H1 q (.tup [.ty "list", .ty "tuple"])) := s1.trans (Same.new hq)
    generalize upd H1 q (.tup [.ty "list", .ty "tuple"]) = H2 at s2 ⊢
    refine ⟨_, rfl, t, _, rfl, .inr (Same.tup s2 ht), _, rfl, u, _, rfl, .inr (Same.tup s2 hu), by simp [scal], ?_⟩
    rw [show decide (V.int ((xs.length : Nat) : Int) = V.int ((ys.length : Nat) : Int)) = true from decide_eq_true (by rw [hl])]
    refine ⟨_, rfl, _, rfl, iteT ⟨_, rfl, _, rfl, t, u, _, _, rfl, Same.tup s2 ht, Same.tup s2 hu, fun D hD => ?_⟩⟩
    refine lcZT (K := K) (a := t) (b := u) (xs := xs) (ys := ys) (i := 3) (j := 4) (fun _ => V.bl true) (Same.tup s2 ht) (Same.tup s2 hu) hl hD (by omega) (fun _ _ => rfl) (fun n x y H3 Q3 hx hy s3 q3 => ?_) fun H3 s3 h3 => ?_
    · exact ⟨_, rfl, _, rfl, hsp n x y H3 Q3 hx hy (s2.trans s3) q3⟩
    · refine ⟨D, (List.range xs.length).map fun _ => true, rfl, SqL.of (by rw [h3, List.map_map]; rfl), ?_⟩
      rw [all_range_true]
      exact k H3 (s2.trans s3)
theorem fn_sameL {n : Nat} {sp : Sp} {f : Addr} {fd : FuncData} (F : Fun K "_law_same" "_law_same" s_law_same f fd) (T : Bi mg) (c_law_same : Cal P w K mg base "_law_same" n ["_law_got", "_law_due"] sp (Pla K ["_law_got", "_law_due"])) : FnOk P w K mg base CX0 (n+1) f fd ["_law_got", "_law_due"] (spSameL sp) := by
  refine F.ok sc_law_same (fun vs H Q E h => ?_) (fun cdv A outer s H vs Q E hr h => ?_)
  · obtain ⟨t, u, xs, ys, rfl, _⟩ := h; rfl
  · obtain ⟨t, u, xs, ys, rfl, ht, hu, hl, hn, hsp, k⟩ := h
    have nd := sc_law_same.nd
    refine ⟨_, (pss_cons (ps_if (PW.pt (pw_or (pt_cmpR op_isN (pv 1) pe_non (nomark _)) (pw_or1 (pt_cmpR op_isN (pv 0) pe_non (nomark _))))) (pss_one (ps_ret (pe_and (pe_cmpR op_isN (pv 0) pe_non (nomark _)) (pe_one (pe_cmpR op_isN (pv 1) pe_non (nomark _)))))) pss_nil)
      (pss_cons (ps_if (pt_val (pe_callB (isiKT K) (by rfl) T.isinstance (by decide +kernel) (pa_cons (pv 1) (pa_cons (pe_tup (pa_cons (pe_ty "list" (by rfl) T.list (by decide +kernel)) (pa_cons (pe_ty "tuple" (by rfl) T.tuple (by decide +kernel)) pa_nil))) pa_nil)))) (pss_cons (ps_if (pt_cmpR op_ne (pe_callB (isiK1 K) (by rfl) T.isinstance (by decide +kernel) (pa_cons (pv 0) (pa_cons (pe_ty "list" (by rfl) T.list (by decide +kernel)) pa_nil))) (pe_callB (isiK1 K) (by rfl) T.isinstance (by decide +kernel) (pa_cons (pv 1) (pa_cons (pe_ty "list" (by rfl) T.list (by decide +kernel)) pa_nil))) (nomark _)) (pss_one (ps_ret pe_bl)) pss_nil)
      (pss_cons (ps_set (i := 2) nd rfl (by first | exact Or.inl rfl | exact Or.inr rfl) (pe_and (pe_callB (isiKT K) (by rfl) T.isinstance (by decide +kernel) (pa_cons (pv 0) (pa_cons (pe_tup (pa_cons (pe_ty "list" (by rfl) T.list (by decide +kernel)) (pa_cons (pe_ty "tuple" (by rfl) T.tuple (by decide +kernel)) pa_nil))) pa_nil))) (pe_one (pe_cmpR op_eq (pe_callB (lenS K) (by rfl) T.len (by decide +kernel) (pa_cons (pv 0) pa_nil)) (pe_callB (lenS K) (by rfl) T.len (by decide +kernel) (pa_cons (pv 1) pa_nil)) (nomark _)))))
      (pss_one (ps_ret (pe_and (pv 2) (pe_one (pe_callB (allK K) (by rfl) T.all (by decide +kernel) (pa_cons (pe_lc (own := [("_law_a", 3), ("_law_b", 4)]) (g := _) (by rfl) nd (pi_zip (by rfl) T.zip (pa_cons (pv 0) (pa_cons (pv 1) pa_nil))) (blkOk_by (own := [("_law_a", 3), ("_law_b", 4)]) (N := ["_law_got", "_law_due", "_law_good", "_law_a", "_law_b"]) (sc := defScope s_law_same) (by decide +kernel)) (fun _ _ _ _ _ => (pgT K 2 rfl (pgs_cons (pg_name (i := 3) nd rfl (by first | exact Or.inl rfl | exact Or.inr rfl)) (pgs_cons (pg_name (i := 4) nd rfl (by first | exact Or.inl rfl | exact Or.inr rfl)) pgs_nil)))) (fun _ _ _ _ _ => pts_nil) (fun _ _ _ _ _ => (pcall c_law_same (hr.mono (by omega)) (pa_cons (pv 3) (pa_cons (pv 4) pa_nil))))) pa_nil)))))))) pss_nil)
      (pss_cons (ps_if (PW.pt (pw_or (pt_cmpR op_ne (pe_callB (isiK1 K) (by rfl) T.isinstance (by decide +kernel) (pa_cons (pv 0) (pa_cons (pe_ty "bool" (by rfl) T.bool (by decide +kernel)) pa_nil))) (pe_callB (isiK1 K) (by rfl) T.isinstance (by decide +kernel) (pa_cons (pv 1) (pa_cons (pe_ty "bool" (by rfl) T.bool (by decide +kernel)) pa_nil))) (nomark _)) (pw_or1 (pt_cmpR op_ne (pe_callB (isiK1 K) (by rfl) T.isinstance (by decide +kernel) (pa_cons (pv 0) (pa_cons (pe_ty "int" (by rfl) T.int (by decide +kernel)) pa_nil))) (pe_callB (isiK1 K) (by rfl) T.isinstance (by decide +kernel) (pa_cons (pv 1) (pa_cons (pe_ty "int" (by rfl) T.int (by decide +kernel)) pa_nil))) (nomark _))))) (pss_one (ps_ret pe_bl)) pss_nil)
      (pss_one (ps_ret (pe_and (pe_cmpR op_eq (pe_callB (isiK1 K) (by rfl) T.isinstance (by decide +kernel) (pa_cons (pv 0) (pa_cons (pe_ty "str" (by rfl) T.str (by decide +kernel)) pa_nil))) (pe_callB (isiK1 K) (by rfl) T.isinstance (by decide +kernel) (pa_cons (pv 1) (pa_cons (pe_ty "str" (by rfl) T.str (by decide +kernel)) pa_nil))) (nomark _)) (pe_one (pe_cmpR op_eq (pv 0) (pv 1) (nomark _))))))))), ?_⟩
    refine ⟨_, rfl, rfl, _, rfl, noN _ (by intro z; cases z) ⟨_, rfl, rfl, _, rfl, noN _ (by intro z; cases z) ?_⟩⟩
    refine ⟨_, rfl, (by show 2 ≤ sizeLine; decide), fun p hp => ⟨_, p, "list", "tuple", "list", true, rfl, .inl (.lst (Same.new hp _ _ hu)), upd_same, kit_list_lt K, _, rfl, iteT ?_⟩⟩
    have s1 : Same H (upd H p (.tup [.ty "list", .ty "tuple"])) := Same.new hp
    generalize upd H p (.tup [.ty "list", .ty "tuple"]) = H1 at s1 ⊢
    refine ⟨_, rfl, _, "list", "list", true, rfl, .inl (.lst (s1 _ _ ht)), kit_list_list K, _, rfl, _, "list", "list", true, rfl, .inl (.lst (s1 _ _ hu)), kit_list_list K, rfl, _, rfl, iteNS rfl ?_⟩
    refine ⟨_, rfl, (by show 2 ≤ sizeLine; decide), fun q hq => ⟨_, q, "list", "tuple", "list", true, rfl, .inl (.lst (Same.new hq _ _ (s1 _ _ ht))), upd_same, kit_list_lt K, _, rfl, iteT ?_⟩⟩
    have s2 : Same H (upd H1 q (.tup [.ty "list", .ty "tuple"])) := s1.trans (Same.new hq)
    generalize upd H1 q (.tup [.ty "list", .ty "tuple"]) = H2 at s2 ⊢
    refine ⟨_, rfl, t, _, rfl, .inl (SqL.of (s2 _ _ ht)), _, rfl, u, _, rfl, .inl (SqL.of (s2 _ _ hu)), by simp [scal], ?_⟩
    rw [show decide (V.int ((xs.length : Nat) : Int) = V.int ((ys.length : Nat) : Int)) = true from decide_eq_true (by rw [hl])]
    refine ⟨_, rfl, _, rfl, iteT ⟨_, rfl, _, rfl, t, u, _, _, rfl, SqL.of (s2 _ _ ht), SqL.of (s2 _ _ hu), fun D hD => ?_⟩⟩
    refine lcZL (K := K) (a := t) (b := u) (xs := xs) (ys := ys) (i := 3) (j := 4) (fun _ => V.bl true) (SqL.of (s2 _ _ ht)) (SqL.of (s2 _ _ hu)) hl hD (by omega) (fun _ _ => rfl) (fun n x y H3 Q3 hx hy s3 q3 => ?_) fun H3 s3 h3 => ?_
    · exact ⟨_, rfl, _, rfl, hsp n x y H3 Q3 hx hy (s2.trans s3) q3⟩
    · refine ⟨D, (List.range xs.length).map fun _ => true, rfl, SqL.of (by rw [h3, List.map_map]; rfl), ?_⟩
      rw [all_range_true]
      exact k H3 (s2.trans s3)
/-- all that the law asks of it -/
def spSameA (K : PySem.W.Frag) : Sp := fun vs H Q E => spSameB vs H Q E ∨ spSameL (fun vs H Q E => spSame0 vs H Q E ∨ spSameT K spSame0 vs H Q E) vs H Q E
theorem ok_sameA (d : Dfn K mg "_law_same" s_law_same ["_law_got", "_law_due"]) (T : Bi mg) : Cal P w K mg base "_law_same" 3 ["_law_got", "_law_due"] (spSameA K) (Pla K ["_law_got", "_law_due"]) := by
  obtain ⟨f, fd, F, m, b⟩ := d.ex
  have c0 : Cal P w K mg base "_law_same" 1 ["_law_got", "_law_due"] spSame0 (Pla K ["_law_got", "_law_due"]) := ⟨f, fd, fn_same0 F m b T, m, F.kp, b⟩
  have c1 : Cal P w K mg base "_law_same" 2 ["_law_got", "_law_due"] (fun vs H Q E => spSame0 vs H Q E ∨ spSameT K spSame0 vs H Q E) (Pla K ["_law_got", "_law_due"]) := ⟨f, fd, fn_or ((fn_same0 F m b T).mono (by omega)) (fn_sameT F T c0), m, F.kp, b⟩
  exact ⟨f, fd, fn_or ((fn_sameB F m b T).mono (by omega)) (fn_sameL F T c1), m, F.kp, b⟩
theorem ok_same2 (d : Dfn K mg "_law_same" s_law_same ["_law_got", "_law_due"]) (T : Bi mg) : Cal P w K mg base "_law_same" 2 ["_law_got", "_law_due"] (spSameT K spSame0) (Pla K ["_law_got", "_law_due"]) := by
  obtain ⟨f, fd, F, m, b⟩ := d.ex
  have c0 : Cal P w K mg base "_law_same" 1 ["_law_got", "_law_due"] spSame0 (Pla K ["_law_got", "_law_due"]) := ⟨f, fd, fn_same0 F m b T, m, F.kp, b⟩
  exact ⟨f, fd, fn_sameT F T c0, m, F.kp, b⟩
end
end L2.Lw

set_option Elab.async false
set_option linter.all false
set_option maxRecDepth 100000
namespace L2.Lw
open PySem PySem.Spec PyProof.Rows
theorem unqE {X : Cx} {e : Expr} {t : TE} (h : qE X e t) : PE X e t := by rw [qE_eq]; exact h
end L2.Lw

set_option Elab.async false
set_option linter.all false
set_option maxRecDepth 100000
namespace L2.Lw
open PySem PySem.Spec PyProof.Rows
def LwA (K : PySem.W.Frag) (a T : Addr) (σ : St) (H' : Hp) : Prop := ∃ (b bl : Addr) (v2 v6 v7 v8 v9 v10 : Option V) (v : V) (l r : Nat) (wt : Wt), σ = [some (.ref a), some (.ref b), v2, some v, some (nV l), some (nV r), v6, v7, v8, v9, v10] ∧ Bag H' b bl ∧ TabI H' T qLam ∧ Wr K H' wt v ∧ Ws 8 30 4 wt ∧ wt.ends = some (l, r) ∧ 1 ≤ r ∧ l ≤ 6 ∧ r ≤ 6
theorem grow_kt {K : PySem.W.Frag} {T : Addr} {q : Str} {H H1 : Hp} (t : TabI H T q) (g : Grow T q H H1) : KT K H H1 := fun _ _ h => SqT.grow h t g
theorem kp_kt {K : PySem.W.Frag} {T l : Addr} {H H' : Hp} {xs : List V} {q : Str} (x : KP T l H H') (t : TabI H T q) (hl : H l = some (.lst xs)) : KT K H H' := fun _ _ h => by obtain ⟨ps, e⟩ := t.at; exact KP.tup x e hl h
theorem say_w {X : Cx} {K : PySem.W.Frag} {B1 B2 B3 Cu : Addr} {σ : St} {H : Hp} {i : Nat} {v : V} {w : Wt} {sp : Sp} (hK : X.K = K) (hσ : σ[i]? = some (some v)) (hw : Wr K H w v) (pl : Plain K B1 B2 B3 Cu) (hs : ∀ H' v' Q E, Wr K H' w v' → Comes E H' "Unshaped" Cu → sp [v'] H' Q E) :
    Says X B1 B2 B3 (fun E => tCall sp [] E (tCons (tW K (cwName K i)) tNil)) σ H "Unshaped" := by
  intro H' Q s q
  rw [hK]
  exact ⟨w, iV hσ (hw.kt (Same.kt s)), fun v' H2 hv s2 => hs H2 v' _ _ hv (comes_word pl s2 q)⟩
theorem bes_two {a b : Wt} {x y z u : Nat} (h : a.ends = some (x, y)) (q : b.ends = some (z, u)) (h1 : x + z ≤ 12) (h2 : y + u ≤ 12) : (Wt.bes [a, b]).ends = some (x + z, y + u) := bes_ends (endsT_cons h (endsT_cons q endsT_nil)) h1 h2
theorem Bad.ok {D M G : Nat} {w : Wt} (h : Bad D M G w) (h1 : D ≤ 16) (h2 : M ≤ 60) (h3 : G ≤ 8) : w.Ok := ⟨h.1.j, h.1.b, by have := h.1.d; omega, by have := h.1.m; omega, by have := h.1.g; omega⟩
theorem Bad.trn {D M G : Nat} {w : Wt} (h : Bad D M G w) : Bad (D + 1) (M + 1) (G + 1) (.trn w) := ⟨h.1.trn.mono (by omega) (by omega) (by omega), by rw [Wt.ends, h.2]; rfl⟩
theorem endsL_no : ∀ {ws : List Wt} {w : Wt}, w ∈ ws → w.ends = none → endsL ws = none
  | x :: ws, w, hw, e => by
    rw [endsL_cons]
    rcases List.mem_cons.mp hw with rfl | h
    · rw [e]; rfl
    · rw [endsL_no h e]; cases x.ends <;> rfl
theorem Bad.bes1 {D M G : Nat} {w : Wt} (h : Bad D M G w) (hD : 1 ≤ D) : Bad (D + 1) (M + 1) (G + 1) (.bes [.box .wire, w]) :=
  ⟨((WsL.two ((Ws.box0 (b := .wire) trivial (by simp)).mono hD (Nat.le_refl _) (Nat.le_refl _)) h.1).bes (by simp) (by simp)).mono (by omega) (by omega) (by omega), by rw [Wt.ends, endsL_no (w := w) (by simp) h.2]; rfl⟩
theorem Bad.thn1 {D M G : Nat} {w : Wt} (h : Bad D M G w) : Bad (D + 1) (M + 1) (G + 1) (.thn [w]) :=
  ⟨((WsL.cons h.1 .nil).thn (by simp) (by simp)).mono (by omega) (by omega) (by omega), by rw [Wt.ends, endsL_no (w := w) (by simp) h.2]; rfl⟩
theorem Bad.bes2 {D M G : Nat} {w : Wt} (h : Bad D M G w) (hD : 1 ≤ D) : Bad (D + 1) (M + 1) (G + 1) (.bes [w, .box .lag]) :=
  ⟨((WsL.two h.1 ((Ws.box (b := .lag) trivial).mono hD (Nat.le_refl _) (Nat.le_refl _))).bes (by simp) (by simp)).mono (by omega) (by omega) (by omega), by rw [Wt.ends, endsL_no (w := w) (by simp) h.2]; rfl⟩
theorem Ws.ok {D M G : Nat} {w : Wt} (h : Ws D M G w) (h1 : D ≤ 16) (h2 : M ≤ 60) (h3 : G ≤ 8) : w.Ok := ⟨h.j, h.b, by have := h.d; omega, by have := h.m; omega, by have := h.g; omega⟩
section
variable {P : Program} {w : World} {K : PySem.W.Frag} {mg : Str → Option Value} {base : Heap}
theorem sc_law : FnScope ["_law_script", "_law_bag_here", "_law_again", "_law_wiring_here", "_law_left", "_law_right", "_law_bad", "_law_k", "_law_acts", "_law_act", "_law_good"] ["_law_script"] (defScope s_law) := ⟨rfl, rfl, rfl, by decide +kernel, rfl, by decide +kernel, by decide +kernel⟩
set_option maxHeartbeats 16000000 in
theorem ok_law {f c Tb fT B1 B2 B3 Cu : Addr} {fdT : FuncData} {oc kV doc pm ct : Value} {od an : Option Addr} {osl : Array (Option Value)} (lk : K.lookup f = some ⟨oc, od, .func (PySem.W.fnOf "law" "law" (defArgs s_law) (defBody s_law) (defScope s_law) .none kV doc pm an (.ref c) ct), osl⟩) (hcd : PySem.W.codeIn K (.ref c) "law" = true)
    (hC : PySem.W.codeHdIn K c Tb = true) (kb : K.In base) (hB : BmAt mg base) (T : Bi mg) (Ft : Fun K "_law_tried" "_law_tried" s_law_tried fT fdT) (bT : Binds K fdT [("_law_act" : Str)] []) (hmT : mg "_law_tried" = some (.ref fT)) (Tc : TrCls K mg B1 B2 B3) (plU : Plain K B1 B2 B3 Cu)
    (c_law_bag : Cal P w K mg base "_law_bag" 1 ["_law_script"] (spBag K) (Pla K ["_law_script"])) (c_law_pull : Cal P w K mg base "_law_pull" 1 ["_law_bag_here", "_law_many"] spPull (Pla K ["_law_bag_here", "_law_many"])) (c_law_of : Cal P w K mg base "_law_of" 2 ["_law_bag_here", "_law_some"] (spOf K) (Pla K ["_law_bag_here", "_law_some"])) (c_law_any_wiring : Cal P w K mg base "_law_any_wiring" 6 ["_law_bag_here", "_law_most", "_law_few"] (spAnyW K) (Pla K ["_law_bag_here", "_law_most", "_law_few"])) (c_law_misfit : Cal P w K mg base "_law_misfit" 3 ["_law_bag_here", "_law_wiring_here", "_law_left", "_law_right"] (spMisfit K) (Pla K ["_law_bag_here", "_law_wiring_here", "_law_left", "_law_right"])) (c_law_same : Cal P w K mg base "_law_same" 2 ["_law_got", "_law_due"] (spSameT K spSame0) (Pla K ["_law_got", "_law_due"]))
    (c_shape : CalX P w K mg base "shape" 23 ["wiring"] (spShape K Cu) (Pla K ["wiring"])) (c_boxes : CalX P w K mg base "boxes" 24 ["wiring"] (spMany K Cu) (Pla K ["wiring"])) (c_lags : CalX P w K mg base "lags" 24 ["wiring"] (spLags K Cu) (Pla K ["wiring"])) :
    FnOk P w K mg base CX0 28 f (PySem.W.fnOf "law" "law" (defArgs s_law) (defBody s_law) (defScope s_law) .none kV doc pm an (.ref c) ct) ["_law_script"] (spLaw K Tb) := by
  refine fn_of lk hcd sc_law (fun vs H Q E h => ?_) (fun A outer s H vs Q E hr h => ?_)
  · obtain ⟨a, ns, rfl, _⟩ := h; rfl
  · obtain ⟨a, ns, rfl, hS, hlen, hTb, k⟩ := h
    have nd := sc_law.nd
    suffices h : ∃ t, PSs (cxOf CX0 P w K mg base ["_law_script", "_law_bag_here", "_law_again", "_law_wiring_here", "_law_left", "_law_right", "_law_bad", "_law_k", "_law_acts", "_law_act", "_law_good"] "law" (defScope s_law) f (.ref c) A outer s H E).nox (defBody s_law) t ∧ t { nx := fun _ H' => Q .non H', rt := Q } (start ["_law_script", "_law_bag_here", "_law_again", "_law_wiring_here", "_law_left", "_law_right", "_law_bad", "_law_k", "_law_acts", "_law_act", "_law_good"] [.ref a]) H from by
      obtain ⟨t, h1, h2⟩ := h; exact ⟨t, h1.nox, h2⟩
    refine ⟨_, (unqZ (Q_pss_cons (Q_ps_set (i := 1) nd rfl (by first | exact Or.inl rfl | exact Or.inr rfl) (Q_pcall c_law_bag (hr.mono (by omega)) (Q_pa_cons (Q_pv 0) Q_pa_nil)))
      (Q_pss_cons (Q_ps_for PassesOwn.never rfl (Q_pi_range1 (by rfl) T.range (Q_pa_cons Q_pe_int Q_pa_nil)) (pg_name (i := 2) nd rfl (by first | exact Or.inl rfl | exact Or.inr rfl)) (Q_pss_cons (Q_ps_asg (Q_pcall c_law_any_wiring (hr.mono (by omega)) (Q_pa_cons (Q_pv 1) (Q_pa_cons Q_pe_int (Q_pa_cons Q_pe_int Q_pa_nil)))) (pg_tup rfl (pgs_cons (pg_name (i := 3) nd rfl (by first | exact Or.inl rfl | exact Or.inr rfl)) (pgs_cons (pg_name (i := 4) nd rfl (by first | exact Or.inl rfl | exact Or.inr rfl)) (pgs_cons (pg_name (i := 5) nd rfl (by first | exact Or.inl rfl | exact Or.inr rfl)) pgs_nil)))))
      (Q_pss_cons (Q_ps_cut (LwA K a Tb) (Q_ps_if (Q_pt_cmpR op_eq (Q_pv 5) Q_pe_int (nomark _)) (Q_pss_one (Q_ps_par3 (i := 3) (j := 4) (k := 5) (by rfl) nd rfl rfl rfl rfl rfl rfl (Q_pa_cons (Q_pw_bes K (Q_pl_tup K (Q_pwa_cons K (Q_pw_name K (Q_pv 3)) (Q_pwa_cons K (Q_pw_wire K) (Q_pwa_nil K))))) (Q_pa_cons (Q_pe_op op_add (Q_pv 4) Q_pe_int) (Q_pa_cons Q_pe_int Q_pa_nil))) (by rfl))) Q_pss_nil))
      (Q_pss_cons (Q_ps_set (i := 6) nd rfl (by first | exact Or.inl rfl | exact Or.inr rfl) (Q_pcall c_law_misfit (hr.mono (by omega)) (Q_pa_cons (Q_pv 1) (Q_pa_cons (Q_pw_name K (Q_pv 3)) (Q_pa_cons (Q_pv 4) (Q_pa_cons (Q_pv 5) Q_pa_nil))))))
      (Q_pss_cons (Q_ps_for PassesOwn.never rfl (Q_pi_range1 (by rfl) T.range (Q_pa_cons (Q_pcall c_law_pull (hr.mono (by omega)) (Q_pa_cons (Q_pv 1) (Q_pa_cons Q_pe_int Q_pa_nil))) Q_pa_nil)) (pg_name (i := 7) nd rfl (by first | exact Or.inl rfl | exact Or.inr rfl)) (Q_pss_one (Q_ps_set (i := 6) nd rfl (by first | exact Or.inl rfl | exact Or.inr rfl) (Q_pcall c_law_of (hr.mono (by omega)) (Q_pa_cons (Q_pv 1) (Q_pa_cons (Q_pe_lst (Q_pa_cons (Q_pw_trn K (Q_pw_name K (Q_pv 6))) (Q_pa_cons (Q_pw_bes K (Q_pl_tup K (Q_pwa_cons K (Q_pw_wire K) (Q_pwa_cons K (Q_pw_name K (Q_pv 6)) (Q_pwa_nil K))))) (Q_pa_cons (Q_pw_thn K (Q_pl_tup K (Q_pwa_cons K (Q_pw_name K (Q_pv 6)) (Q_pwa_nil K)))) (Q_pa_cons (Q_pw_bes K (Q_pl_tup K (Q_pwa_cons K (Q_pw_name K (Q_pv 6)) (Q_pwa_cons K (Q_pw_lag K) (Q_pwa_nil K))))) Q_pa_nil))))) Q_pa_nil))))))
      (Q_pss_cons (Q_ps_set (i := 8) nd rfl (by first | exact Or.inl rfl | exact Or.inr rfl) (Q_pe_lst (Q_pa_cons (Q_pe_lam (k := 24) (c := c) rfl (PySem.W.codeHd_of_K kb hC) hB (by exact ⟨show LamFrom (defScope s_law) _ from ⟨by decide +kernel, by decide +kernel⟩, ⟨rfl, rfl, rfl, by decide +kernel⟩, fun _ _ _ _ => rfl, fun f cd cl A outer s H E hr => (unqE (Q_pcallX c_shape (hr.mono (by omega)) xpassL (Q_pa_cons (Q_pw_name K (Q_pv 6)) Q_pa_nil)))⟩)) Q_pa_nil)))
      (Q_pss_cons (Q_ps_expr (Q_pe_bm PySem.F.plainAttrs_list PySem.F.slot_list_append PySem.F.type_list_append mt_append (Q_pv 8) (Q_pa_cons (Q_pe_lam (k := 24) (c := c) rfl (PySem.W.codeHd_of_K kb hC) hB (by exact ⟨show LamFrom (defScope s_law) _ from ⟨by decide +kernel, by decide +kernel⟩, ⟨rfl, rfl, rfl, by decide +kernel⟩, fun _ _ _ _ => rfl, fun f cd cl A outer s H E hr => (unqE (Q_pcallX c_boxes (hr.mono (by omega)) xpassL (Q_pa_cons (Q_pw_name K (Q_pv 6)) Q_pa_nil)))⟩)) Q_pa_nil)))
      (Q_pss_cons (Q_ps_expr (Q_pe_bm PySem.F.plainAttrs_list PySem.F.slot_list_append PySem.F.type_list_append mt_append (Q_pv 8) (Q_pa_cons (Q_pe_lam (k := 24) (c := c) rfl (PySem.W.codeHd_of_K kb hC) hB (by exact ⟨show LamFrom (defScope s_law) _ from ⟨by decide +kernel, by decide +kernel⟩, ⟨rfl, rfl, rfl, by decide +kernel⟩, fun _ _ _ _ => rfl, fun f cd cl A outer s H E hr => (unqE (Q_pcallX c_lags (hr.mono (by omega)) xpassL (Q_pa_cons (Q_pw_name K (Q_pv 6)) Q_pa_nil)))⟩)) Q_pa_nil)))
      (Q_pss_cons (Q_ps_if (Q_pt_cmpR (op_neD hr.units) (Q_pe_lcI (own := [("_law_act", 9)]) (g := _) (by rfl) nd (Q_piL K (Q_pv 8)) (blkOk_by (own := [("_law_act", 9)]) (N := ["_law_script", "_law_bag_here", "_law_again", "_law_wiring_here", "_law_left", "_law_right", "_law_bad", "_law_k", "_law_acts", "_law_act", "_law_good"]) (sc := defScope s_law) (by decide +kernel)) (fun _ _ _ _ _ => (pg_name (i := 9) nd rfl (by first | exact Or.inl rfl | exact Or.inr rfl))) (fun _ _ _ _ _ => pts_nil) (fun _ _ _ _ _ _ _ I hfp => Q_pe_triedv (k := 24) (i := 9) Ft bT hmT sc_tried body_tried Tc (hr.mono (by omega)) (fun _ => rfl) I hfp (by rfl) rfl (by first | exact Or.inl rfl | exact Or.inr (Or.inl rfl) | exact Or.inr (Or.inr rfl)))) (Q_pe_op op_rep (Q_pe_lst (Q_pa_cons (Q_pe_tup (Q_pa_cons Q_pe_str Q_pa_nil)) Q_pa_nil)) Q_pe_int) (nomark _)) (Q_pss_one (Q_ps_ret Q_pe_bl)) Q_pss_nil)
      (Q_pss_cons (Q_ps_set (i := 10) nd rfl (by first | exact Or.inl rfl | exact Or.inr rfl) (Q_pw_thn K (Q_pl_tup K (Q_pwa_cons K (Q_pw_name K (Q_pv 3)) (Q_pwa_cons K (Q_pw_bes K (Q_pl_rep K rfl (Q_pl_tup K (Q_pwa_cons K (Q_pw_wire K) (Q_pwa_nil K))) (Q_pn_name (Q_pv 5)))) (Q_pwa_nil K))))))
      (Q_pss_one (Q_ps_if (Q_pt_not (Q_pt_val (Q_pcall c_law_same (hr.mono (by omega)) (Q_pa_cons (Q_pcallX c_shape (hr.mono (by omega)) passN (Q_pa_cons (Q_pv 10) Q_pa_nil)) (Q_pa_cons (Q_pe_tup (Q_pa_cons (Q_pv 4) (Q_pa_cons (Q_pv 5) Q_pa_nil))) Q_pa_nil))))) (Q_pss_one (Q_ps_ret Q_pe_bl)) Q_pss_nil))))))))))))
      (Q_pss_one (Q_ps_ret (Q_pe_cmpR (op_eqD hr.units) (Q_pcallX c_shape (hr.mono (by omega)) passN (Q_pa_cons (Q_pw_bes K (Q_pl_rep K rfl (Q_pl_tup K (Q_pwa_cons K (Q_pw_copy K Q_pn_int) (Q_pwa_nil K))) Q_pn_int)) Q_pa_nil)) (Q_pe_tup (Q_pa_cons Q_pe_int (Q_pa_cons Q_pe_int Q_pa_nil))) (nomark _))))))), ?_⟩
    refine ⟨_, rfl, a, ns, rfl, hS, hlen, fun b bl H0 hb0 hbl0 hB0 s0 => ?_⟩
    refine ⟨6, rfl, by decide, by decide, ?_⟩
    refine for_range (lo := 0) (n := 6) (fun i σ H1 => ∃ (b bl : Addr) (v2 v3 v4 v5 v6 v7 v8 v9 v10 : Option V), σ = [some (.ref a), some (.ref b), v2, v3, v4, v5, v6, v7, v8, v9, v10] ∧ Bag H1 b bl ∧ TabI H1 Tb qLam) ⟨b, bl, none, none, none, none, none, none, none, none, none, rfl, hB0, hTb.same s0⟩ ?_ ?_
    · clear hS hb0 hbl0 hB0 s0 hTb
      rintro i σ H1 hi ⟨b, bl, v2, v3, v4, v5, v6, v7, v8, v9, v10, rfl, hB1, t1⟩
      refine ⟨_, rfl, b, bl, 3, 4, rfl, hB1, by decide, by decide, fun t v wt l r H2 hT hW hA hB2 k2 => ?_⟩
      have t2 := t1.bag hB1 k2
      refine ⟨t, _, rfl, hT, rfl, _, _, rfl, _, _, rfl, _, _, rfl, rfl, ?_⟩
      refine ⟨?_, ?_⟩
      · refine ⟨_, rfl, rfl, _, rfl, ite2 (fun c => ?_) (fun c => ?_)⟩
        · have r0 : r = 0 := by simpa [nV] using c
          subst r0
          have hA1 := hA.hl
          refine ⟨_, iBes (iLen (iCons (iV rfl hW) (iCons iB iNil))), fun v' H3 hv s3 => ⟨_, rfl, _, _, rfl, rfl, ?_⟩⟩
          refine ⟨_, _, _, rfl, b, bl, _, v6, v7, v8, v9, v10, v', l + 1, 1, _, rfl, hB2.same s3, t2.same s3, hv, ((WsL.two hA.s ((Ws.box0 (b := .wire) trivial (by simp)).mono (by omega) (Nat.le_refl _) (Nat.le_refl _))).bes (by simp) (by simp)).mono (by omega) (by omega) (by omega), bes_two hA.e wire_ends (by omega) (by omega), by omega, by omega, by omega⟩
        · have r0 : r ≠ 0 := fun z => c (by subst z; rfl)
          have hA1 := hA.hl
          have hA2 := hA.hr
          exact ⟨b, bl, _, v6, v7, v8, v9, v10, v, l, r, wt, rfl, hB2, t2, hW, hA.s.mono (by omega) (by omega) (by omega), hA.e, by omega, by omega, by omega⟩
      clear hB1 t1 hT hW hA hB2 k2 t2
      rintro σ H2 ⟨b, bl, v2, v6, v7, v8, v9, v10, v, l, r, wt, rfl, hB2, t2, hW, hs, he, r1, l6, r6⟩
      refine ⟨_, rfl, _, iV rfl hW, fun v' H3 hv s3 => ⟨_, rfl, _, rfl, b, bl, v', wt, l, r, rfl, hB2.same s3, hv, hs, he, r1, l6, r6, fun x w4 H4 hx hbad hB4 k4 => ?_⟩⟩
      have t4 := (t2.same s3).bag (hB2.same s3) k4
      have hW4 := (hW.kt (Same.kt s3)).kt ((hB2.same s3).kt k4)
      clear hB2 t2 hW hv s3 k4
      refine ⟨_, rfl, b, bl, 4, rfl, hB4, by decide, by decide, fun z H5 z0 z4 hB5 k5 => ⟨z, rfl, by omega, by omega, ?_⟩⟩
      have t5 := t4.bag hB4 k5
      have hW5 := hW4.kt (hB4.kt k5)
      have hx5 := hx.kt (hB4.kt k5)
      clear t4 hW4 hx hB4 k5
      refine for_range (lo := 0) (n := z.toNat) (fun i σ H' => ∃ (v7 : Option V) (x : V) (w : Wt), σ = [some (.ref a), some (.ref b), v2, some v, some (nV l), some (nV r), some x, v7, v8, v9, v10] ∧ Bag H' b bl ∧ TabI H' Tb qLam ∧ Wr K H' wt v ∧ Wr K H' w x ∧ Bad (10 + i) (42 + i) (4 + i) w) ⟨v7, x, w4, rfl, hB5, t5, hW5, hx5, hbad⟩ ?_ ?_
      · clear hB5 t5 hW5 hx5 hbad
        rintro j σ H6 hj ⟨v7, x, w, rfl, hB6, t6, hW6, hx6, hb6⟩
        have n4 : 4 ≤ sizeLine := by decide
        refine ⟨_, rfl, _, iTrn (iV rfl hx6), fun y1 G1 u1 s1 => ⟨_, iBes (iLen (iCons iB (iCons (iV rfl (hx6.kt (Same.kt s1))) iNil))), fun y2 G2 u2 s2 => ⟨_, iThn (iLen (iCons (iV rfl (hx6.kt (Same.kt (s1.trans s2)))) iNil)), fun y3 G3 u3 s3 => ⟨_, iBes (iLen (iCons (iV rfl (hx6.kt (Same.kt (s1.trans (s2.trans s3))))) (iCons iB iNil))), fun y4 G4 u4 s4 => ⟨n4, fun q hq => ?_⟩⟩⟩⟩⟩
        have s5 := Same.new (o := HO.lst [y1, y2, y3, y4]) hq
        have f5 := (hB6.same (s1.trans (s2.trans (s3.trans s4)))).fresh hq
        have e1 := u1.kt (Same.kt (s2.trans (s3.trans (s4.trans s5))))
        have e2 := u2.kt (Same.kt (s3.trans (s4.trans s5)))
        have e3 := u3.kt (Same.kt (s4.trans s5))
        have e4 := u4.kt (Same.kt s5)
        have s0 := s1.trans (s2.trans (s3.trans (s4.trans s5)))
        have eq := upd_same (H := G4) (a := q) (o := HO.lst [y1, y2, y3, y4])
        clear u1 u2 u3 u4 s1 s2 s3 s4 s5 hq
        generalize upd G4 q (.lst [y1, y2, y3, y4]) = G5 at e1 e2 e3 e4 s0 eq ⊢
        have hB7 := hB6.same s0
        refine ⟨b, bl, q, _, rfl, hB7, SqL.of eq, f5, by simp, by simp, fun y H7 hy hB8 k7 => ?_⟩
        have kt7 : KT K G5 H7 := hB7.kt k7
        refine ⟨some (V.int (0 + (j : Int))), y, ?_⟩
        have fin : ∀ w', Wr K H7 w' y → Bad (10 + j + 1) (42 + j + 1) (4 + j + 1) w' → ∃ w2, [some (.ref a), some (.ref b), v2, some v, some (nV l), some (nV r), some y, some (V.int (0 + (j : Int))), v8, v9, v10] = [some (.ref a), some (.ref b), v2, some v, some (nV l), some (nV r), some y, some (V.int (0 + (j : Int))), v8, v9, v10] ∧ Bag H7 b bl ∧ TabI H7 Tb qLam ∧ Wr K H7 wt v ∧ Wr K H7 w2 y ∧ Bad (10 + (j + 1)) (42 + (j + 1)) (4 + (j + 1)) w2 := fun w' h1 h2 => ⟨w', rfl, hB8, (t6.same s0).bag hB7 k7, (hW6.kt (Same.kt s0)).kt kt7, h1, h2⟩
        simp only [List.mem_cons, List.not_mem_nil, or_false] at hy
        rcases hy with rfl | rfl | rfl | rfl
        · exact fin _ (e1.kt kt7) hb6.trn
        · exact fin _ (e2.kt kt7) (hb6.bes1 (by omega))
        · exact fin _ (e3.kt kt7) hb6.thn1
        · exact fin _ (e4.kt kt7) (hb6.bes2 (by omega))
      clear hB5 t5 hW5 hx5 hbad
      rintro σ H6 ⟨v7, x, w, rfl, hB6, t6, hW6, hx6, hb6⟩
      have ok6 : w.Ok := hb6.ok (by omega) (by omega) (by omega)
      have eb := hb6.2
      refine ⟨t6, fun H9 f1 hf1 g9 la1 => ⟨(by show 1 ≤ sizeLine; decide), fun q hq9 => ?_⟩⟩
      have nq := Bag.neN hB6 (grow_free g9 hq9)
      have A9 := acts_one la1 hq9
      have g9' := grow_new (o := HO.lst ([.ref f1] : List V)) g9 hq9
      have t9 := g9'.1
      have hB9 := Bag.grow g9' t6 hB6
      have hW9 := hW6.kt (grow_kt t6 g9')
      have hx9 := hx6.kt (grow_kt t6 g9')
      clear hq9 la1 g9' hW6 hx6 t6 hB6
      generalize upd H9 q (.lst [.ref f1]) = H9b at A9 t9 hB9 hW9 hx9 ⊢
      refine ⟨_, rfl, .inl ⟨rfl, _, SqL.of A9.1⟩, t9, fun G2 f2 hf2 g2 la2 => ⟨q, _, .ref f2, rfl, rfl, acts_at A9 t9 g2, (by rw [List.length_map]; exact Nat.lt_of_lt_of_le (show _ < 10 by simp) (by decide)), ?_⟩⟩
      obtain ⟨A12, t12, p12⟩ := acts_app A9 t9 g2 la2
      generalize upd G2 q _ = H12 at A12 t12 p12 ⊢
      refine ⟨_, rfl, .inl ⟨rfl, _, SqL.of A12.1⟩, t12, fun G3 f3 hf3 g3 la3 => ⟨q, _, .ref f3, rfl, rfl, acts_at A12 t12 g3, (by rw [List.length_map]; exact Nat.lt_of_lt_of_le (show _ < 10 by simp) (by decide)), ?_⟩⟩
      obtain ⟨A13, t13, p13⟩ := acts_app A12 t12 g3 la3
      generalize upd G3 q _ = H13 at A13 t13 p13 ⊢
      have kp : KP Tb q H9b H13 := KP.trans p12 p13
      obtain ⟨ps9, hT9⟩ := TabI.at t9
      have hB13 := kp.bag hT9 nq.1 nq.2 hB9
      have kt13 : KT K H9b H13 := kp_kt kp t9 A9.1
      have hW13 := hW9.kt kt13
      have hx13 := hx9.kt kt13
      clear p12 p13 A12 t12 kp hT9 A9 t9 hB9 hW9 hx9 kt13 g9
      refine ⟨_, rfl, q, rfl, ⟨_, SqL.of A13.1⟩, fun D hD => ?_⟩
      refine acts_lc (K := K) (wd := "Unshaped") (j := 9) rfl hD (by simp) A13 (by simp) (fun pr hpr => ?_) fun rs H18 s18 hD18 hlr hrs => ?_
      · simp only [List.mem_append, List.mem_singleton] at hpr
        rcases hpr with (rfl | rfl) | rfl
        · exact say_w rfl rfl hx13 plU fun H' v' Q E h1 h2 => ⟨w, v', rfl, h1, ok6, fun r e => (by rw [eb] at e; cases e), fun _ => h2⟩
        · exact say_w rfl rfl hx13 plU fun H' v' Q E h1 h2 => ⟨w, v', rfl, h1, ok6, fun r e => (by rw [eb] at e; cases e), fun _ => h2⟩
        · exact say_w rfl rfl hx13 plU fun H' v' Q E h1 h2 => ⟨w, v', rfl, h1, ok6, fun r e => (by rw [eb] at e; cases e), fun _ => h2⟩
      refine ⟨(by show 1 ≤ sizeLine; decide), fun e1 h1 => ⟨(by show 1 ≤ sizeLine; decide), fun e2 h2 => ⟨e2, 3, _, rfl, rfl, upd_same, by decide, by decide, (by show 1 * 3 ≤ sizeLine; decide), fun e3 h3 => ?_⟩⟩⟩
      have s1 := Same.new (o := HO.tup ([.str "Unshaped"] : List V)) h1
      have s2 := Same.new (o := HO.lst ([.ref e1] : List V)) h2
      have s3 := Same.new (o := HO.lst (List.replicate (3 : Int).toNat ([.ref e1] : List V)).flatten) h3
      have s := s1.trans (s2.trans s3)
      refine rne_words (K := K) (wd := "Unshaped") (rs := rs) (n := 3) (e1 := e1) (by decide +kernel) (s _ _ hD18) (by rw [hlr]; rfl) (fun r hx => s _ _ (hrs r hx)) (s3 _ _ (s2 _ _ upd_same)) (by rw [upd_same]; rfl) ⟨_, rfl, iteF ?_⟩
      have s139 := s18.trans s
      have t18 := t13.same s139
      have hB18 := hB13.same s139
      have hW18 := hW13.kt (Same.kt s139)
      generalize upd (upd (upd H18 e1 _) e2 _) e3 _ = H19 at t18 hB18 hW18 ⊢
      clear s139 s s3 s2 s1 h3 h2 h1 s18 hD18 hrs hlr hD A13 t13 hB13 hx13 hW13
      refine ⟨_, iThn (iLen (iCons (iV rfl hW18) (iCons (iBes (iRep (iLen (iCons iB iNil)) (nNm rfl) (by omega))) iNil))), fun g H20 hg s20 => ?_⟩
      have eg : (Wt.thn [wt, .bes (List.replicate r (.box .wire))]).ends = some (l, r) := thn_two he (wires_ends r (by omega)) (by omega) (by omega)
      have okg : (Wt.thn [wt, .bes (List.replicate r (.box .wire))]).Ok := ((WsL.two hs ((wires_ws r r1 (by omega)).mono (by omega) (Nat.le_refl _) (Nat.le_refl _))).thn (by simp) (by simp)).ok (by omega) (by omega) (by omega)
      refine ⟨_, rfl, _, g, rfl, hg, okg, fun r' er t H21 ht s21 => ?_, fun z => by rw [eg] at z; cases z⟩
      rw [eg] at er
      cases er
      have s21' := s20.trans s21
      refine ⟨_, rfl, _, rfl, (by show 2 ≤ sizeLine; decide), fun p hp => ?_⟩
      have s22 := Same.new (o := HO.tup [nV l, nV r]) hp
      refine ⟨t, p, [nV l, nV r], [nV l, nV r], rfl, Same.tup s22 ht, SqT.of upd_same, rfl, by simp, fun n x y H' Q' hx hy s' q' => ?_, fun H22 s23 => ⟨_, rfl, iteF ?_⟩⟩
      · rw [hx] at hy; cases hy
        refine ⟨x, rfl, ?_, q'⟩
        have hm := List.mem_of_getElem? hx
        simp only [List.mem_cons, List.not_mem_nil, or_false] at hm
        rcases hm with rfl | rfl
        · exact ⟨_, rfl⟩
        · exact ⟨_, rfl⟩
      have sE := s21'.trans (s22.trans s23)
      exact ⟨b, bl, _, _, _, _, _, _, _, _, _, rfl, hB18.same sE, t18.same sE⟩
    · rintro σ H1 ⟨b, bl, v2, v3, v4, v5, v6, v7, v8, v9, v10, rfl, hB1, t1⟩
      refine ⟨_, iBes (iRep (iLen (iCons (iNum (nInt 4)) iNil)) (nInt 3) (by omega)), fun v H2 hv s2 => ?_⟩
      have e4 : (Wt.bes (List.replicate 3 (.box (.copy 4)))).ends = some (3, 12) := bes_ends (endsT_rep (copy_ends 4) 3) (by omega) (by omega)
      have ok4 : (Wt.bes (List.replicate 3 (.box (.copy 4)))).Ok := ((WsL.rep (Ws.box0 (b := .copy 4) (by show 4 ≤ 4; omega) (by simp)) 3).bes (by simp) (by simp)).ok (by omega) (by omega) (by omega)
      refine ⟨_, v, rfl, hv, ok4, fun r' er t H3 ht s3 => ?_, fun z => by rw [e4] at z; cases z⟩
      rw [e4] at er
      cases er
      refine ⟨(by show 2 ≤ sizeLine; decide), fun p2 hp2 => ?_⟩
      refine ⟨.tuple [.int 3, .int 12], .tuple [.int 3, .int 12], .tup (Same.tup (Same.new hp2) ht) (.cons (.int _) (.cons (.int _) .nil)), .tup (SqT.of upd_same) (.cons (.int _) (.cons (.int _) .nil)), by decide +kernel, by decide +kernel, ?_⟩
      rw [show PyData.eqv (.tuple [.int 3, .int 12]) (.tuple [.int 3, .int 12]) = true by decide +kernel]
      exact k _
end
end L2.Lw

set_option Elab.async false
set_option linter.all false
set_option maxRecDepth 100000
namespace L2.Lw
open PySem PySem.Spec PyProof.Rows
def EsK (P : Params) : List (Str × Addr) → List DictEntry → Prop
  | [], [] => True
  | x :: xs, e :: es => (e.hash = PyData.keyHash P x.1 ∧ (∃ t, e.key = .str x.1 t) ∧ e.val = .ref x.2) ∧ EsK P xs es
  | _, _ => False
theorem EsK.keys {w : World} {prog : Program} : ∀ {xs : List (Str × Addr)} {es : List DictEntry}, EsK w.params xs es → (∀ e ∈ es, ∃ k, (mixKind prog w).is k e.key = true ∧ e.hash = (mixKind prog w).hash k) ∧ Pairs (mixKind prog w) es (xs.map fun x => (.inr x.1, .ref x.2))
  | [], [], _ => ⟨fun _ h => (nomatch h), .nil⟩
  | (x, f) :: xs, e :: es, ⟨⟨h1, ⟨t, h2⟩, h3⟩, r⟩ => by
    obtain ⟨a, b⟩ := r.keys (prog := prog)
    have q : (mixKind prog w).is (.inr x) e.key = true := by rw [h2]; exact mixKind_str prog w x t
    refine ⟨fun e' he => ?_, .cons q h3 b⟩
    rcases List.mem_cons.mp he with rfl | he
    · exact ⟨_, q, h1⟩
    · exact a e' he
  | [], _ :: _, h => h.elim
  | _ :: _, [], h => h.elim
theorem mdk_of {prog : Program} {w : World} {K : PySem.W.Frag} {a : Addr} {es : Array DictEntry} {n : Nat} {xs : List (Str × Addr)} (hd : (a == sysModules) = false) (l : K.lookup a = some ⟨.type "dict", none, .dict es n, #[]⟩) (z : EsK w.params xs es.toList) {ys : List Str} (en : xs.map (·.1) = ys) (nd : (ys.map fun x => (.inr x : Key)).Nodup) :
    MDk prog w K a (xs.map fun x => (.inr x.1, .ref x.2)) := by
  obtain ⟨h1, h2⟩ := z.keys (prog := prog)
  refine ⟨hd, xs.map fun x => (.inr x.1, .ref x.2), ?_, fun h X => ⟨_, es, n, X _ _ l, ⟨rfl, rfl, rfl⟩, rfl, fun e he => h1 e (Array.mem_toList_iff.mpr he), h2, ?_⟩⟩
  · clear h1 h2 z l en nd
    induction xs with
    | nil => exact .nil
    | cons x xs ih => exact .cons ⟨rfl, rfl⟩ ih
  · rw [List.map_map]; rw [← en, List.map_map] at nd; exact nd
set_option maxHeartbeats 0 in
theorem all_mk {l : PySem.W.OpenLaw} {w : World} {K : PySem.W.Frag} {h : Heap} {mg : Str → Option Value} {fa : Addr} {Tb : Addr} (X : K.In h) (Gn : h.Ns mainGlobals mg) (hfa : mg "law" = some (.ref fa))
    {f0 : Addr} {od0 an0 : Option Addr} {sl0 : Array (Option Value)} {oc0 dc0 pm0 ct0 cd0 kV0 : Value}
    {f1 : Addr} {od1 an1 : Option Addr} {sl1 : Array (Option Value)} {oc1 dc1 pm1 ct1 cd1 kV1 : Value}
    {f2 : Addr} {od2 an2 : Option Addr} {sl2 : Array (Option Value)} {oc2 dc2 pm2 ct2 cd2 kV2 : Value}
    {f3 : Addr} {od3 an3 : Option Addr} {sl3 : Array (Option Value)} {oc3 dc3 pm3 ct3 cd3 kV3 : Value}
    {f4 : Addr} {od4 an4 : Option Addr} {sl4 : Array (Option Value)} {oc4 dc4 pm4 ct4 cd4 kV4 : Value}
    {f5 : Addr} {od5 an5 : Option Addr} {sl5 : Array (Option Value)} {oc5 dc5 pm5 ct5 cd5 kV5 : Value}
    {f6 : Addr} {od6 an6 : Option Addr} {sl6 : Array (Option Value)} {oc6 dc6 pm6 ct6 cd6 kV6 : Value}
    {f7 : Addr} {od7 an7 : Option Addr} {sl7 : Array (Option Value)} {oc7 dc7 pm7 ct7 cd7 kV7 : Value}
    {f8 : Addr} {od8 an8 : Option Addr} {sl8 : Array (Option Value)} {oc8 dc8 pm8 ct8 cd8 kV8 : Value}
    {f9 : Addr} {od9 an9 : Option Addr} {sl9 : Array (Option Value)} {oc9 dc9 pm9 ct9 cd9 kV9 : Value}
    {f10 : Addr} {od10 an10 : Option Addr} {sl10 : Array (Option Value)} {oc10 dc10 pm10 ct10 cd10 kV10 : Value}
    {f11 : Addr} {od11 an11 : Option Addr} {sl11 : Array (Option Value)} {oc11 dc11 pm11 ct11 cd11 kV11 : Value}
    {f12 : Addr} {od12 an12 : Option Addr} {sl12 : Array (Option Value)} {oc12 dc12 pm12 ct12 cd12 kV12 : Value}
    {f13 : Addr} {od13 an13 : Option Addr} {sl13 : Array (Option Value)} {oc13 dc13 pm13 ct13 cd13 kV13 : Value}
    {f14 : Addr} {od14 an14 : Option Addr} {sl14 : Array (Option Value)} {oc14 dc14 pm14 ct14 cd14 kV14 : Value}
    {f15 : Addr} {od15 an15 : Option Addr} {sl15 : Array (Option Value)} {oc15 dc15 pm15 ct15 cd15 kV15 : Value}
    {f16 : Addr} {od16 an16 : Option Addr} {sl16 : Array (Option Value)} {oc16 dc16 pm16 ct16 cd16 kV16 : Value}
    {f17 : Addr} {od17 an17 : Option Addr} {sl17 : Array (Option Value)} {oc17 dc17 pm17 ct17 cd17 kV17 : Value}
    {f18 : Addr} {od18 an18 : Option Addr} {sl18 : Array (Option Value)} {oc18 dc18 pm18 ct18 cd18 kV18 : Value}
    {f19 : Addr} {od19 an19 : Option Addr} {sl19 : Array (Option Value)} {oc19 dc19 pm19 ct19 cd19 kV19 : Value}
    {f20 : Addr} {od20 an20 : Option Addr} {sl20 : Array (Option Value)} {oc20 dc20 pm20 ct20 cd20 kV20 : Value}
    {f21 : Addr} {od21 an21 : Option Addr} {sl21 : Array (Option Value)} {oc21 dc21 pm21 ct21 cd21 kV21 : Value}
    {f22 : Addr} {od22 an22 : Option Addr} {sl22 : Array (Option Value)} {oc22 dc22 pm22 ct22 cd22 kV22 : Value}
    {f23 : Addr} {od23 an23 : Option Addr} {sl23 : Array (Option Value)} {oc23 dc23 pm23 ct23 cd23 kV23 : Value}
    {f24 : Addr} {od24 an24 : Option Addr} {sl24 : Array (Option Value)} {oc24 dc24 pm24 ct24 cd24 kV24 : Value}
    {f25 : Addr} {od25 an25 : Option Addr} {sl25 : Array (Option Value)} {oc25 dc25 pm25 ct25 cd25 kV25 : Value}
    {f26 : Addr} {od26 an26 : Option Addr} {sl26 : Array (Option Value)} {oc26 dc26 pm26 ct26 cd26 kV26 : Value}
    {f27 : Addr} {od27 an27 : Option Addr} {sl27 : Array (Option Value)} {oc27 dc27 pm27 ct27 cd27 kV27 : Value}
    {f28 : Addr} {od28 an28 : Option Addr} {sl28 : Array (Option Value)} {oc28 dc28 pm28 ct28 cd28 kV28 : Value}
    {f29 : Addr} {od29 an29 : Option Addr} {sl29 : Array (Option Value)} {oc29 dc29 pm29 ct29 cd29 kV29 : Value}
    {f30 : Addr} {od30 an30 : Option Addr} {sl30 : Array (Option Value)} {oc30 dc30 pm30 ct30 cd30 kV30 : Value}
    {f31 : Addr} {od31 an31 : Option Addr} {sl31 : Array (Option Value)} {oc31 dc31 pm31 ct31 kV31 : Value} {cL : Addr}
    {C0 N0 : Addr} {nm0 q0 : Str} {bs0 bm0 : List Value} {hd0 : Bool} {sn0 : List Str} {sub0 : List Value} {ab0 : Bool} {col0 : Option Bool} {dd0 : Option Addr} {ka0 kb0 kc0 kd_0 kf0 : Option Value} {nw0 : String}
    {fi0 : Addr} {io0 : Value} {id0 ia0 : Option Addr} {il0 : Array (Option Value)} {ik0 ie0 ip0 ic0 it0 : Value} {dt0 : Addr} {dw0 : Value} {do0 : Option Addr} {dn0 : Nat} {dl0 : Array (Option Value)}
    {C1 N1 : Addr} {nm1 q1 : Str} {bs1 bm1 : List Value} {hd1 : Bool} {sn1 : List Str} {sub1 : List Value} {ab1 : Bool} {col1 : Option Bool} {dd1 : Option Addr} {ka1 kb1 kc1 kd_1 kf1 : Option Value} {nw1 : String}
    {C2 N2 : Addr} {nm2 q2 : Str} {bs2 bm2 : List Value} {hd2 : Bool} {sn2 : List Str} {sub2 : List Value} {ab2 : Bool} {col2 : Option Bool} {dd2 : Option Addr} {ka2 kb2 kc2 kd_2 kf2 : Option Value} {nw2 : String}
    {C3 N3 : Addr} {nm3 q3 : Str} {bs3 bm3 : List Value} {hd3 : Bool} {sn3 : List Str} {sub3 : List Value} {ab3 : Bool} {col3 : Option Bool} {dd3 : Option Addr} {ka3 kb3 kc3 kd_3 kf3 : Option Value} {nw3 : String}
    {fi3 : Addr} {io3 : Value} {id3 ia3 : Option Addr} {il3 : Array (Option Value)} {ik3 ie3 ip3 ic3 it3 : Value}
    {u_MOST_WEIGHT : Value}
    {u_MOST_COPIES : Value}
    {u_MOST_THINGS : Value}
    {u_MOST_DEEP : Value}
    {u_MOST_BOXES : Value}
    {u_MOST_LAGS : Value}
    {u_MOST_ENDS : Value}
    {a_LAG : Addr} {d_LAG : Option Addr} {it_LAG : Array Value} {n_LAG : Nat} {sl_LAG : Array (Option Value)}
    {a_BARE_BOXES : Addr} {d_BARE_BOXES : Option Addr} {it_BARE_BOXES : Array Value} {n_BARE_BOXES : Nat} {sl_BARE_BOXES : Array (Option Value)}
    {a_FILLED_BOXES f_nm : Addr} {es_FILLED_BOXES : Array DictEntry} {n_FILLED_BOXES : Nat}
    {a_JOINED_ENDS : Addr} {es_JOINED_ENDS : Array DictEntry} {n_JOINED_ENDS : Nat}
    (a0 : PySem.W.nsIn K mainGlobals "is_number" = some (some (.ref f0))) (l0 : K.lookup f0 = some ⟨oc0, od0, .func (PySem.W.fnOf "is_number" "is_number" (defArgs s_is_number) (defBody s_is_number) (defScope s_is_number) .none kV0 dc0 pm0 an0 cd0 ct0), sl0⟩) (c0 : PySem.W.codeIn K cd0 "is_number" = true) (k0 : PySem.W.keepIn K (.ref f0) = true)
    (a1 : PySem.W.nsIn K mainGlobals "is_weight" = some (some (.ref f1))) (l1 : K.lookup f1 = some ⟨oc1, od1, .func (PySem.W.fnOf "is_weight" "is_weight" (defArgs s_is_weight) (defBody s_is_weight) (defScope s_is_weight) .none kV1 dc1 pm1 an1 cd1 ct1), sl1⟩) (c1 : PySem.W.codeIn K cd1 "is_weight" = true) (k1 : PySem.W.keepIn K (.ref f1) = true)
    (a2 : PySem.W.nsIn K mainGlobals "is_copies" = some (some (.ref f2))) (l2 : K.lookup f2 = some ⟨oc2, od2, .func (PySem.W.fnOf "is_copies" "is_copies" (defArgs s_is_copies) (defBody s_is_copies) (defScope s_is_copies) .none kV2 dc2 pm2 an2 cd2 ct2), sl2⟩) (c2 : PySem.W.codeIn K cd2 "is_copies" = true) (k2 : PySem.W.keepIn K (.ref f2) = true)
    (a3 : PySem.W.nsIn K mainGlobals "is_filled" = some (some (.ref f3))) (l3 : K.lookup f3 = some ⟨oc3, od3, .func (PySem.W.fnOf "is_filled" "is_filled" (defArgs s_is_filled) (defBody s_is_filled) (defScope s_is_filled) .none kV3 dc3 pm3 an3 cd3 ct3), sl3⟩) (c3 : PySem.W.codeIn K cd3 "is_filled" = true) (k3 : PySem.W.keepIn K (.ref f3) = true)
    (a4 : PySem.W.nsIn K mainGlobals "is_weights" = some (some (.ref f4))) (l4 : K.lookup f4 = some ⟨oc4, od4, .func (PySem.W.fnOf "is_weights" "is_weights" (defArgs s_is_weights) (defBody s_is_weights) (defScope s_is_weights) .none kV4 dc4 pm4 an4 cd4 ct4), sl4⟩) (c4 : PySem.W.codeIn K cd4 "is_weights" = true) (k4 : PySem.W.keepIn K (.ref f4) = true)
    (a5 : PySem.W.nsIn K mainGlobals "is_rows" = some (some (.ref f5))) (l5 : K.lookup f5 = some ⟨oc5, od5, .func (PySem.W.fnOf "is_rows" "is_rows" (defArgs s_is_rows) (defBody s_is_rows) (defScope s_is_rows) .none kV5 dc5 pm5 an5 cd5 ct5), sl5⟩) (c5 : PySem.W.codeIn K cd5 "is_rows" = true) (k5 : PySem.W.keepIn K (.ref f5) = true)
    (a6 : PySem.W.nsIn K mainGlobals "is_order" = some (some (.ref f6))) (l6 : K.lookup f6 = some ⟨oc6, od6, .func (PySem.W.fnOf "is_order" "is_order" (defArgs s_is_order) (defBody s_is_order) (defScope s_is_order) .none kV6 dc6 pm6 an6 cd6 ct6), sl6⟩) (c6 : PySem.W.codeIn K cd6 "is_order" = true) (k6 : PySem.W.keepIn K (.ref f6) = true)
    (a7 : PySem.W.nsIn K mainGlobals "word_of" = some (some (.ref f7))) (l7 : K.lookup f7 = some ⟨oc7, od7, .func (PySem.W.fnOf "word_of" "word_of" (defArgs s_word_of) (defBody s_word_of) (defScope s_word_of) .none kV7 dc7 pm7 an7 cd7 ct7), sl7⟩) (c7 : PySem.W.codeIn K cd7 "word_of" = true) (k7 : PySem.W.keepIn K (.ref f7) = true)
    (a8 : PySem.W.nsIn K mainGlobals "is_box" = some (some (.ref f8))) (l8 : K.lookup f8 = some ⟨oc8, od8, .func (PySem.W.fnOf "is_box" "is_box" (defArgs s_is_box) (defBody s_is_box) (defScope s_is_box) .none kV8 dc8 pm8 an8 cd8 ct8), sl8⟩) (c8 : PySem.W.codeIn K cd8 "is_box" = true) (k8 : PySem.W.keepIn K (.ref f8) = true)
    (a9 : PySem.W.nsIn K mainGlobals "parts_of" = some (some (.ref f9))) (l9 : K.lookup f9 = some ⟨oc9, od9, .func (PySem.W.fnOf "parts_of" "parts_of" (defArgs s_parts_of) (defBody s_parts_of) (defScope s_parts_of) .none kV9 dc9 pm9 an9 cd9 ct9), sl9⟩) (c9 : PySem.W.codeIn K cd9 "parts_of" = true) (k9 : PySem.W.keepIn K (.ref f9) = true)
    (a10 : PySem.W.nsIn K mainGlobals "boxes_of" = some (some (.ref f10))) (l10 : K.lookup f10 = some ⟨oc10, od10, .func (PySem.W.fnOf "boxes_of" "boxes_of" (defArgs s_boxes_of) (defBody s_boxes_of) (defScope s_boxes_of) .none kV10 dc10 pm10 an10 cd10 ct10), sl10⟩) (c10 : PySem.W.codeIn K cd10 "boxes_of" = true) (k10 : PySem.W.keepIn K (.ref f10) = true)
    (a11 : PySem.W.nsIn K mainGlobals "box_ends" = some (some (.ref f11))) (l11 : K.lookup f11 = some ⟨oc11, od11, .func (PySem.W.fnOf "box_ends" "box_ends" (defArgs s_box_ends) (defBody s_box_ends) (defScope s_box_ends) .none kV11 dc11 pm11 an11 cd11 ct11), sl11⟩) (c11 : PySem.W.codeIn K cd11 "box_ends" = true) (k11 : PySem.W.keepIn K (.ref f11) = true)
    (a12 : PySem.W.nsIn K mainGlobals "then_ends" = some (some (.ref f12))) (l12 : K.lookup f12 = some ⟨oc12, od12, .func (PySem.W.fnOf "then_ends" "then_ends" (defArgs s_then_ends) (defBody s_then_ends) (defScope s_then_ends) .none kV12 dc12 pm12 an12 cd12 ct12), sl12⟩) (c12 : PySem.W.codeIn K cd12 "then_ends" = true) (k12 : PySem.W.keepIn K (.ref f12) = true)
    (a13 : PySem.W.nsIn K mainGlobals "beside_ends" = some (some (.ref f13))) (l13 : K.lookup f13 = some ⟨oc13, od13, .func (PySem.W.fnOf "beside_ends" "beside_ends" (defArgs s_beside_ends) (defBody s_beside_ends) (defScope s_beside_ends) .none kV13 dc13 pm13 an13 cd13 ct13), sl13⟩) (c13 : PySem.W.codeIn K cd13 "beside_ends" = true) (k13 : PySem.W.keepIn K (.ref f13) = true)
    (a14 : PySem.W.nsIn K mainGlobals "turned_ends" = some (some (.ref f14))) (l14 : K.lookup f14 = some ⟨oc14, od14, .func (PySem.W.fnOf "turned_ends" "turned_ends" (defArgs s_turned_ends) (defBody s_turned_ends) (defScope s_turned_ends) .none kV14 dc14 pm14 an14 cd14 ct14), sl14⟩) (c14 : PySem.W.codeIn K cd14 "turned_ends" = true) (k14 : PySem.W.keepIn K (.ref f14) = true)
    (a15 : PySem.W.nsIn K mainGlobals "ring_ends" = some (some (.ref f15))) (l15 : K.lookup f15 = some ⟨oc15, od15, .func (PySem.W.fnOf "ring_ends" "ring_ends" (defArgs s_ring_ends) (defBody s_ring_ends) (defScope s_ring_ends) .none kV15 dc15 pm15 an15 cd15 ct15), sl15⟩) (c15 : PySem.W.codeIn K cd15 "ring_ends" = true) (k15 : PySem.W.keepIn K (.ref f15) = true)
    (a16 : PySem.W.nsIn K mainGlobals "ends_of" = some (some (.ref f16))) (l16 : K.lookup f16 = some ⟨oc16, od16, .func (PySem.W.fnOf "ends_of" "ends_of" (defArgs s_ends_of) (defBody s_ends_of) (defScope s_ends_of) .none kV16 dc16 pm16 an16 cd16 ct16), sl16⟩) (c16 : PySem.W.codeIn K cd16 "ends_of" = true) (k16 : PySem.W.keepIn K (.ref f16) = true)
    (a17 : PySem.W.nsIn K mainGlobals "plain_boxes" = some (some (.ref f17))) (l17 : K.lookup f17 = some ⟨oc17, od17, .func (PySem.W.fnOf "plain_boxes" "plain_boxes" (defArgs s_plain_boxes) (defBody s_plain_boxes) (defScope s_plain_boxes) .none kV17 dc17 pm17 an17 cd17 ct17), sl17⟩) (c17 : PySem.W.codeIn K cd17 "plain_boxes" = true) (k17 : PySem.W.keepIn K (.ref f17) = true)
    (a18 : PySem.W.nsIn K mainGlobals "shape" = some (some (.ref f18))) (l18 : K.lookup f18 = some ⟨oc18, od18, .func (PySem.W.fnOf "shape" "shape" (defArgs s_shape) (defBody s_shape) (defScope s_shape) .none kV18 dc18 pm18 an18 cd18 ct18), sl18⟩) (c18 : PySem.W.codeIn K cd18 "shape" = true) (k18 : PySem.W.keepIn K (.ref f18) = true)
    (a19 : PySem.W.nsIn K mainGlobals "boxes" = some (some (.ref f19))) (l19 : K.lookup f19 = some ⟨oc19, od19, .func (PySem.W.fnOf "boxes" "boxes" (defArgs s_boxes) (defBody s_boxes) (defScope s_boxes) .none kV19 dc19 pm19 an19 cd19 ct19), sl19⟩) (c19 : PySem.W.codeIn K cd19 "boxes" = true) (k19 : PySem.W.keepIn K (.ref f19) = true)
    (a20 : PySem.W.nsIn K mainGlobals "lags" = some (some (.ref f20))) (l20 : K.lookup f20 = some ⟨oc20, od20, .func (PySem.W.fnOf "lags" "lags" (defArgs s_lags) (defBody s_lags) (defScope s_lags) .none kV20 dc20 pm20 an20 cd20 ct20), sl20⟩) (c20 : PySem.W.codeIn K cd20 "lags" = true) (k20 : PySem.W.keepIn K (.ref f20) = true)
    (a21 : PySem.W.nsIn K mainGlobals "_law_bag" = some (some (.ref f21))) (l21 : K.lookup f21 = some ⟨oc21, od21, .func (PySem.W.fnOf "_law_bag" "_law_bag" (defArgs s_law_bag) (defBody s_law_bag) (defScope s_law_bag) .none kV21 dc21 pm21 an21 cd21 ct21), sl21⟩) (c21 : PySem.W.codeIn K cd21 "_law_bag" = true) (k21 : PySem.W.keepIn K (.ref f21) = true)
    (a22 : PySem.W.nsIn K mainGlobals "_law_pull" = some (some (.ref f22))) (l22 : K.lookup f22 = some ⟨oc22, od22, .func (PySem.W.fnOf "_law_pull" "_law_pull" (defArgs s_law_pull) (defBody s_law_pull) (defScope s_law_pull) .none kV22 dc22 pm22 an22 cd22 ct22), sl22⟩) (c22 : PySem.W.codeIn K cd22 "_law_pull" = true) (k22 : PySem.W.keepIn K (.ref f22) = true)
    (a23 : PySem.W.nsIn K mainGlobals "_law_of" = some (some (.ref f23))) (l23 : K.lookup f23 = some ⟨oc23, od23, .func (PySem.W.fnOf "_law_of" "_law_of" (defArgs s_law_of) (defBody s_law_of) (defScope s_law_of) .none kV23 dc23 pm23 an23 cd23 ct23), sl23⟩) (c23 : PySem.W.codeIn K cd23 "_law_of" = true) (k23 : PySem.W.keepIn K (.ref f23) = true)
    (a24 : PySem.W.nsIn K mainGlobals "_law_box" = some (some (.ref f24))) (l24 : K.lookup f24 = some ⟨oc24, od24, .func (PySem.W.fnOf "_law_box" "_law_box" (defArgs s_law_box) (defBody s_law_box) (defScope s_law_box) .none kV24 dc24 pm24 an24 cd24 ct24), sl24⟩) (c24 : PySem.W.codeIn K cd24 "_law_box" = true) (k24 : PySem.W.keepIn K (.ref f24) = true)
    (a25 : PySem.W.nsIn K mainGlobals "_law_layer" = some (some (.ref f25))) (l25 : K.lookup f25 = some ⟨oc25, od25, .func (PySem.W.fnOf "_law_layer" "_law_layer" (defArgs s_law_layer) (defBody s_law_layer) (defScope s_law_layer) .none kV25 dc25 pm25 an25 cd25 ct25), sl25⟩) (c25 : PySem.W.codeIn K cd25 "_law_layer" = true) (k25 : PySem.W.keepIn K (.ref f25) = true)
    (a26 : PySem.W.nsIn K mainGlobals "_law_wiring" = some (some (.ref f26))) (l26 : K.lookup f26 = some ⟨oc26, od26, .func (PySem.W.fnOf "_law_wiring" "_law_wiring" (defArgs s_law_wiring) (defBody s_law_wiring) (defScope s_law_wiring) .none kV26 dc26 pm26 an26 cd26 ct26), sl26⟩) (c26 : PySem.W.codeIn K cd26 "_law_wiring" = true) (k26 : PySem.W.keepIn K (.ref f26) = true)
    (a27 : PySem.W.nsIn K mainGlobals "_law_any_wiring" = some (some (.ref f27))) (l27 : K.lookup f27 = some ⟨oc27, od27, .func (PySem.W.fnOf "_law_any_wiring" "_law_any_wiring" (defArgs s_law_any_wiring) (defBody s_law_any_wiring) (defScope s_law_any_wiring) .none kV27 dc27 pm27 an27 cd27 ct27), sl27⟩) (c27 : PySem.W.codeIn K cd27 "_law_any_wiring" = true) (k27 : PySem.W.keepIn K (.ref f27) = true)
    (a28 : PySem.W.nsIn K mainGlobals "_law_misfit" = some (some (.ref f28))) (l28 : K.lookup f28 = some ⟨oc28, od28, .func (PySem.W.fnOf "_law_misfit" "_law_misfit" (defArgs s_law_misfit) (defBody s_law_misfit) (defScope s_law_misfit) .none kV28 dc28 pm28 an28 cd28 ct28), sl28⟩) (c28 : PySem.W.codeIn K cd28 "_law_misfit" = true) (k28 : PySem.W.keepIn K (.ref f28) = true)
    (a29 : PySem.W.nsIn K mainGlobals "_law_same" = some (some (.ref f29))) (l29 : K.lookup f29 = some ⟨oc29, od29, .func (PySem.W.fnOf "_law_same" "_law_same" (defArgs s_law_same) (defBody s_law_same) (defScope s_law_same) .none kV29 dc29 pm29 an29 cd29 ct29), sl29⟩) (c29 : PySem.W.codeIn K cd29 "_law_same" = true) (k29 : PySem.W.keepIn K (.ref f29) = true)
    (a30 : PySem.W.nsIn K mainGlobals "_law_tried" = some (some (.ref f30))) (l30 : K.lookup f30 = some ⟨oc30, od30, .func (PySem.W.fnOf "_law_tried" "_law_tried" (defArgs s_law_tried) (defBody s_law_tried) (defScope s_law_tried) .none kV30 dc30 pm30 an30 cd30 ct30), sl30⟩) (c30 : PySem.W.codeIn K cd30 "_law_tried" = true) (k30 : PySem.W.keepIn K (.ref f30) = true)
    (a31 : PySem.W.nsIn K mainGlobals "law" = some (some (.ref f31))) (l31 : K.lookup f31 = some ⟨oc31, od31, .func (PySem.W.fnOf "law" "law" (defArgs s_law) (defBody s_law) (defScope s_law) .none kV31 dc31 pm31 an31 (.ref cL) ct31), sl31⟩) (c31 : PySem.W.codeIn K (.ref cL) "law" = true) (k31 : PySem.W.keepIn K (.ref f31) = true)
    (hCd : PySem.W.codeHdIn K cL Tb = true)
    (xa0 : PySem.W.nsIn K mainGlobals "LagError" = some (some (.ref C0))) (xl0 : K.lookup C0 = some (excClassObj nm0 q0 C0 N0 bs0 bm0 hd0 sn0 sub0 ab0 col0 dd0 ka0 kb0 kc0 kd_0 kf0 nw0)) (xb0 : offOwn bm0 = excBm) (xo0 : bm0.contains (.type "object") = true) (xh0 : hd0 = true) (xs0 : PySem.W.subIn K (.ref C0) (.type "BaseException") = some true) (xt0 : PySem.W.findIn K (.ref C0) "__setattr__" = some (some (.builtin "object.__setattr__"))) (xg0 : PySem.W.findIn K (.ref C0) "__getattribute__" = some (some (.builtin "BaseException.__getattribute__"))) (xk0 : PySem.W.findIn K (.ref C0) "__getattr__" = some none) (xw0 : PySem.W.findIn K (.ref C0) "word" = some none) (xy0 : PySem.W.typeIn K (.ref C0) = some (.type "type")) (yi0 : PySem.W.nsIn K N0 "__init__" = some (some (.ref fi0))) (yl0 : K.lookup fi0 = some ⟨io0, id0, .func (PySem.W.fnOf "__init__" "LagError.__init__" (defArgs i_LagError) (defBody i_LagError) (defScope i_LagError) (.ref dt0) ik0 ie0 ip0 ia0 ic0 it0), il0⟩) (yc0 : PySem.W.codeIn K ic0 "LagError.__init__" = true) (yd0 : K.lookup dt0 = some ⟨.type "tuple", do0, .seq #[dw0] dn0, dl0⟩) (ym0 : PySem.W.readsIn K C0 (.type "type") = true) (yf0 : PySem.W.findCls K (.ref C0) (.type "type") "__init__" = some (.val (.ref fi0))) (ys0 : PySem.W.specialIn K (.ref C0) "__getattribute__" = some (some (.builtin "type.__getattribute__"))) (yk0 : PySem.W.keepIn K (.ref fi0) = true)
    (xa1 : PySem.W.nsIn K mainGlobals "BadTable" = some (some (.ref C1))) (xl1 : K.lookup C1 = some (excClassObj nm1 q1 C1 N1 bs1 bm1 hd1 sn1 sub1 ab1 col1 dd1 ka1 kb1 kc1 kd_1 kf1 nw1)) (xb1 : offOwn bm1 = excBm) (xo1 : bm1.contains (.type "object") = true) (xh1 : hd1 = true) (xs1 : PySem.W.subIn K (.ref C1) (.type "BaseException") = some true) (xt1 : PySem.W.findIn K (.ref C1) "__setattr__" = some (some (.builtin "object.__setattr__"))) (xg1 : PySem.W.findIn K (.ref C1) "__getattribute__" = some (some (.builtin "BaseException.__getattribute__"))) (xk1 : PySem.W.findIn K (.ref C1) "__getattr__" = some none) (xw1 : PySem.W.findIn K (.ref C1) "word" = some none) (xy1 : PySem.W.typeIn K (.ref C1) = some (.type "type"))
    (xa2 : PySem.W.nsIn K mainGlobals "BadSheet" = some (some (.ref C2))) (xl2 : K.lookup C2 = some (excClassObj nm2 q2 C2 N2 bs2 bm2 hd2 sn2 sub2 ab2 col2 dd2 ka2 kb2 kc2 kd_2 kf2 nw2)) (xb2 : offOwn bm2 = excBm) (xo2 : bm2.contains (.type "object") = true) (xh2 : hd2 = true) (xs2 : PySem.W.subIn K (.ref C2) (.type "BaseException") = some true) (xt2 : PySem.W.findIn K (.ref C2) "__setattr__" = some (some (.builtin "object.__setattr__"))) (xg2 : PySem.W.findIn K (.ref C2) "__getattribute__" = some (some (.builtin "BaseException.__getattribute__"))) (xk2 : PySem.W.findIn K (.ref C2) "__getattr__" = some none) (xw2 : PySem.W.findIn K (.ref C2) "word" = some none) (xy2 : PySem.W.typeIn K (.ref C2) = some (.type "type"))
    (xa3 : PySem.W.nsIn K mainGlobals "Unshaped" = some (some (.ref C3))) (xl3 : K.lookup C3 = some (excClassObj nm3 q3 C3 N3 bs3 bm3 hd3 sn3 sub3 ab3 col3 dd3 ka3 kb3 kc3 kd_3 kf3 nw3)) (xb3 : offOwn bm3 = excBm) (xo3 : bm3.contains (.type "object") = true) (xh3 : hd3 = true) (xs3 : PySem.W.subIn K (.ref C3) (.type "BaseException") = some true) (xt3 : PySem.W.findIn K (.ref C3) "__setattr__" = some (some (.builtin "object.__setattr__"))) (xg3 : PySem.W.findIn K (.ref C3) "__getattribute__" = some (some (.builtin "BaseException.__getattribute__"))) (xk3 : PySem.W.findIn K (.ref C3) "__getattr__" = some none) (xw3 : PySem.W.findIn K (.ref C3) "word" = some none) (xy3 : PySem.W.typeIn K (.ref C3) = some (.type "type")) (yi3 : PySem.W.nsIn K N3 "__init__" = some (some (.ref fi3))) (yl3 : K.lookup fi3 = some ⟨io3, id3, .func (PySem.W.fnOf "__init__" "Unshaped.__init__" (defArgs i_Unshaped) (defBody i_Unshaped) (defScope i_Unshaped) .none ik3 ie3 ip3 ia3 ic3 it3), il3⟩) (yc3 : PySem.W.codeIn K ic3 "Unshaped.__init__" = true) (zn3 : nsAll K N3 = true) (zk3 : PySem.W.keepIn K (.ref C3) = true) (zf3 : io3 = .type "function") {Bn3 inN3 : String} {bmN3 : List Value} (zb3 : ExcBaseFacts Bn3 nw3 inN3 bmN3) (zc3 : excBm.contains (.type Bn3) = true) (u13 : PySem.W.subIn K (.ref C3) (.ref C1) = some false) (u23 : PySem.W.subIn K (.ref C3) (.ref C2) = some false) (u33 : PySem.W.subIn K (.ref C3) (.ref C0) = some true)
    (z_len : PySem.W.nsIn K mainGlobals "len" = some none) (z_range : PySem.W.nsIn K mainGlobals "range" = some none) (z_list : PySem.W.nsIn K mainGlobals "list" = some none) (z_tuple : PySem.W.nsIn K mainGlobals "tuple" = some none) (z_any : PySem.W.nsIn K mainGlobals "any" = some none) (z_all : PySem.W.nsIn K mainGlobals "all" = some none) (z_max : PySem.W.nsIn K mainGlobals "max" = some none) (z_min : PySem.W.nsIn K mainGlobals "min" = some none) (z_isinstance : PySem.W.nsIn K mainGlobals "isinstance" = some none) (z_enumerate : PySem.W.nsIn K mainGlobals "enumerate" = some none) (z_zip : PySem.W.nsIn K mainGlobals "zip" = some none) (z_int : PySem.W.nsIn K mainGlobals "int" = some none) (z_bool : PySem.W.nsIn K mainGlobals "bool" = some none) (z_str : PySem.W.nsIn K mainGlobals "str" = some none) (z_sorted : PySem.W.nsIn K mainGlobals "sorted" = some none) (z_reversed : PySem.W.nsIn K mainGlobals "reversed" = some none) (z_sum : PySem.W.nsIn K mainGlobals "sum" = some none) (z_ValueError : PySem.W.nsIn K mainGlobals "ValueError" = some none)
     (g_MOST_WEIGHT : PySem.W.nsIn K mainGlobals "MOST_WEIGHT" = some (some u_MOST_WEIGHT)) (r_MOST_WEIGHT : RelV (.int 96) u_MOST_WEIGHT) (g_MOST_COPIES : PySem.W.nsIn K mainGlobals "MOST_COPIES" = some (some u_MOST_COPIES)) (r_MOST_COPIES : RelV (.int 4) u_MOST_COPIES) (g_MOST_THINGS : PySem.W.nsIn K mainGlobals "MOST_THINGS" = some (some u_MOST_THINGS)) (r_MOST_THINGS : RelV (.int 12) u_MOST_THINGS) (g_MOST_DEEP : PySem.W.nsIn K mainGlobals "MOST_DEEP" = some (some u_MOST_DEEP)) (r_MOST_DEEP : RelV (.int 16) u_MOST_DEEP) (g_MOST_BOXES : PySem.W.nsIn K mainGlobals "MOST_BOXES" = some (some u_MOST_BOXES)) (r_MOST_BOXES : RelV (.int 60) u_MOST_BOXES) (g_MOST_LAGS : PySem.W.nsIn K mainGlobals "MOST_LAGS" = some (some u_MOST_LAGS)) (r_MOST_LAGS : RelV (.int 8) u_MOST_LAGS) (g_MOST_ENDS : PySem.W.nsIn K mainGlobals "MOST_ENDS" = some (some u_MOST_ENDS)) (r_MOST_ENDS : RelV (.int 12) u_MOST_ENDS) (g_LAG : PySem.W.nsIn K mainGlobals "LAG" = some (some (.ref a_LAG))) (l_LAG : K.lookup a_LAG = some ⟨.type "tuple", d_LAG, .seq it_LAG n_LAG, sl_LAG⟩) (v_LAG : Vals [.str "lag"] it_LAG.toList) (sz_LAG : it_LAG.size ≤ sizeLine) (g_BARE_BOXES : PySem.W.nsIn K mainGlobals "BARE_BOXES" = some (some (.ref a_BARE_BOXES))) (l_BARE_BOXES : K.lookup a_BARE_BOXES = some ⟨.type "tuple", d_BARE_BOXES, .seq it_BARE_BOXES n_BARE_BOXES, sl_BARE_BOXES⟩) (v_BARE_BOXES : Vals [.str "wire", .str "lag"] it_BARE_BOXES.toList) (sz_BARE_BOXES : it_BARE_BOXES.size ≤ sizeLine) (g_FILLED_BOXES : PySem.W.nsIn K mainGlobals "FILLED_BOXES" = some (some (.ref a_FILLED_BOXES))) (l_FILLED_BOXES : K.lookup a_FILLED_BOXES = some ⟨.type "dict", none, .dict es_FILLED_BOXES n_FILLED_BOXES, #[]⟩) (e_FILLED_BOXES : EsK w.params [("weigh", f1), ("copy", f2), ("sum", f2), ("mix", f5), ("shuffle", f6), ("use", f_nm)] es_FILLED_BOXES.toList) (m_FILLED_BOXES : (a_FILLED_BOXES == sysModules) = false) (g_JOINED_ENDS : PySem.W.nsIn K mainGlobals "JOINED_ENDS" = some (some (.ref a_JOINED_ENDS))) (l_JOINED_ENDS : K.lookup a_JOINED_ENDS = some ⟨.type "dict", none, .dict es_JOINED_ENDS n_JOINED_ENDS, #[]⟩) (e_JOINED_ENDS : EsK w.params [("then", f12), ("beside", f13), ("turned", f14), ("ring", f15)] es_JOINED_ENDS.toList) (m_JOINED_ENDS : (a_JOINED_ENDS == sysModules) = false) :
    ∃ (fd : FuncData), ((∃ c, PySem.W.codeHdIn K c Tb = true)) ∧ (∀ (s : Shared) (v : Value), BindsTo s fd ⟨[v], []⟩ [("_law_script", v)]) ∧ ∀ base : Heap, K.In base → base.Ns mainGlobals mg → BmAt mg base → FnOk l.prog w K mg base CX0 28 fa fd ["_law_script"] (spLaw K Tb) := by
  have e := hfa.symm.trans (PySem.W.mg_of X Gn a31)
  cases e
  have T : Bi mg := ⟨PySem.W.mg_none_of X Gn z_len, PySem.W.mg_none_of X Gn z_range, PySem.W.mg_none_of X Gn z_list, PySem.W.mg_none_of X Gn z_tuple, PySem.W.mg_none_of X Gn z_any, PySem.W.mg_none_of X Gn z_all, PySem.W.mg_none_of X Gn z_max, PySem.W.mg_none_of X Gn z_min, PySem.W.mg_none_of X Gn z_isinstance, PySem.W.mg_none_of X Gn z_enumerate, PySem.W.mg_none_of X Gn z_zip, PySem.W.mg_none_of X Gn z_int, PySem.W.mg_none_of X Gn z_bool, PySem.W.mg_none_of X Gn z_str⟩
  have h_sorted := PySem.W.mg_none_of X Gn z_sorted
  have h_reversed := PySem.W.mg_none_of X Gn z_reversed
  have h_sum := PySem.W.mg_none_of X Gn z_sum
  have h_ValueError := PySem.W.mg_none_of X Gn z_ValueError
  have Gp_ : Gp K mg u_MOST_WEIGHT u_MOST_COPIES u_MOST_THINGS u_MOST_DEEP u_MOST_BOXES u_MOST_LAGS a_LAG a_BARE_BOXES := ⟨PySem.W.mg_of X Gn g_MOST_WEIGHT, r_MOST_WEIGHT, PySem.W.mg_of X Gn g_MOST_COPIES, r_MOST_COPIES, PySem.W.mg_of X Gn g_MOST_THINGS, r_MOST_THINGS, PySem.W.mg_of X Gn g_MOST_DEEP, r_MOST_DEEP, PySem.W.mg_of X Gn g_MOST_BOXES, r_MOST_BOXES, PySem.W.mg_of X Gn g_MOST_LAGS, r_MOST_LAGS, PySem.W.mg_of X Gn g_LAG, rfl, fun H => .inr ⟨_, _, _, l_LAG, rfl, rfl, sz_LAG, v_LAG⟩, PySem.W.mg_of X Gn g_BARE_BOXES, rfl, fun H => .inr ⟨_, _, _, l_BARE_BOXES, rfl, rfl, sz_BARE_BOXES, v_BARE_BOXES⟩⟩
  have Gf_ : Gf l.prog w K mg a_FILLED_BOXES f1 f2 f5 f6 f_nm := ⟨PySem.W.mg_of X Gn g_FILLED_BOXES, mdk_of m_FILLED_BOXES l_FILLED_BOXES e_FILLED_BOXES (ys := ["weigh", "copy", "sum", "mix", "shuffle", "use"]) rfl (by decide +kernel), PySem.W.mg_of X Gn a1, PySem.W.mg_of X Gn a2, PySem.W.mg_of X Gn a5, PySem.W.mg_of X Gn a6⟩
  have Ge_ : Ge l.prog w K mg u_MOST_ENDS a_JOINED_ENDS f12 f13 f14 f15 := ⟨PySem.W.mg_of X Gn g_MOST_ENDS, r_MOST_ENDS, PySem.W.mg_of X Gn g_JOINED_ENDS, mdk_of m_JOINED_ENDS l_JOINED_ENDS e_JOINED_ENDS (ys := ["then", "beside", "turned", "ring"]) rfl (by decide +kernel), PySem.W.mg_of X Gn a12, PySem.W.mg_of X Gn a13, PySem.W.mg_of X Gn a14, PySem.W.mg_of X Gn a15⟩
  have F0 := fun_mk (st := s_is_number) l0 c0 k0
  have D0 : Dfn K mg "is_number" s_is_number ["thing", "most"] := ⟨_, _, F0, PySem.W.mg_of X Gn a0, F0.binds (ps := ["thing", "most"]) fun _ _ _ _ _ _ us hl => match us, hl with | [_, _], _ => rfl⟩
  have F1 := fun_mk (st := s_is_weight) l1 c1 k1
  have D1 : Dfn K mg "is_weight" s_is_weight ["thing"] := ⟨_, _, F1, PySem.W.mg_of X Gn a1, F1.binds (ps := ["thing"]) fun _ _ _ _ _ _ us hl => match us, hl with | [_], _ => rfl⟩
  have F2 := fun_mk (st := s_is_copies) l2 c2 k2
  have D2 : Dfn K mg "is_copies" s_is_copies ["thing"] := ⟨_, _, F2, PySem.W.mg_of X Gn a2, F2.binds (ps := ["thing"]) fun _ _ _ _ _ _ us hl => match us, hl with | [_], _ => rfl⟩
  have F3 := fun_mk (st := s_is_filled) l3 c3 k3
  have D3 : Dfn K mg "is_filled" s_is_filled ["thing"] := ⟨_, _, F3, PySem.W.mg_of X Gn a3, F3.binds (ps := ["thing"]) fun _ _ _ _ _ _ us hl => match us, hl with | [_], _ => rfl⟩
  have F4 := fun_mk (st := s_is_weights) l4 c4 k4
  have D4 : Dfn K mg "is_weights" s_is_weights ["thing"] := ⟨_, _, F4, PySem.W.mg_of X Gn a4, F4.binds (ps := ["thing"]) fun _ _ _ _ _ _ us hl => match us, hl with | [_], _ => rfl⟩
  have F5 := fun_mk (st := s_is_rows) l5 c5 k5
  have D5 : Dfn K mg "is_rows" s_is_rows ["thing"] := ⟨_, _, F5, PySem.W.mg_of X Gn a5, F5.binds (ps := ["thing"]) fun _ _ _ _ _ _ us hl => match us, hl with | [_], _ => rfl⟩
  have F6 := fun_mk (st := s_is_order) l6 c6 k6
  have D6 : Dfn K mg "is_order" s_is_order ["thing"] := ⟨_, _, F6, PySem.W.mg_of X Gn a6, F6.binds (ps := ["thing"]) fun _ _ _ _ _ _ us hl => match us, hl with | [_], _ => rfl⟩
  have F7 := fun_mk (st := s_word_of) l7 c7 k7
  have D7 : Dfn K mg "word_of" s_word_of ["part"] := ⟨_, _, F7, PySem.W.mg_of X Gn a7, F7.binds (ps := ["part"]) fun _ _ _ _ _ _ us hl => match us, hl with | [_], _ => rfl⟩
  have F8 := fun_mk (st := s_is_box) l8 c8 k8
  have D8 : Dfn K mg "is_box" s_is_box ["part"] := ⟨_, _, F8, PySem.W.mg_of X Gn a8, F8.binds (ps := ["part"]) fun _ _ _ _ _ _ us hl => match us, hl with | [_], _ => rfl⟩
  have F9 := fun_mk (st := s_parts_of) l9 c9 k9
  have D9 : Dfn K mg "parts_of" s_parts_of ["part"] := ⟨_, _, F9, PySem.W.mg_of X Gn a9, F9.binds (ps := ["part"]) fun _ _ _ _ _ _ us hl => match us, hl with | [_], _ => rfl⟩
  have F10 := fun_mk (st := s_boxes_of) l10 c10 k10
  have D10 : Dfn K mg "boxes_of" s_boxes_of ["wiring"] := ⟨_, _, F10, PySem.W.mg_of X Gn a10, F10.binds (ps := ["wiring"]) fun _ _ _ _ _ _ us hl => match us, hl with | [_], _ => rfl⟩
  have F11 := fun_mk (st := s_box_ends) l11 c11 k11
  have D11 : Dfn K mg "box_ends" s_box_ends ["box"] := ⟨_, _, F11, PySem.W.mg_of X Gn a11, F11.binds (ps := ["box"]) fun _ _ _ _ _ _ us hl => match us, hl with | [_], _ => rfl⟩
  have F12 := fun_mk (st := s_then_ends) l12 c12 k12
  have D12 : Dfn K mg "then_ends" s_then_ends ["ends"] := ⟨_, _, F12, PySem.W.mg_of X Gn a12, F12.binds (ps := ["ends"]) fun _ _ _ _ _ _ us hl => match us, hl with | [_], _ => rfl⟩
  have F13 := fun_mk (st := s_beside_ends) l13 c13 k13
  have D13 : Dfn K mg "beside_ends" s_beside_ends ["ends"] := ⟨_, _, F13, PySem.W.mg_of X Gn a13, F13.binds (ps := ["ends"]) fun _ _ _ _ _ _ us hl => match us, hl with | [_], _ => rfl⟩
  have F14 := fun_mk (st := s_turned_ends) l14 c14 k14
  have D14 : Dfn K mg "turned_ends" s_turned_ends ["ends"] := ⟨_, _, F14, PySem.W.mg_of X Gn a14, F14.binds (ps := ["ends"]) fun _ _ _ _ _ _ us hl => match us, hl with | [_], _ => rfl⟩
  have F15 := fun_mk (st := s_ring_ends) l15 c15 k15
  have D15 : Dfn K mg "ring_ends" s_ring_ends ["ends"] := ⟨_, _, F15, PySem.W.mg_of X Gn a15, F15.binds (ps := ["ends"]) fun _ _ _ _ _ _ us hl => match us, hl with | [_], _ => rfl⟩
  have F16 := fun_mk (st := s_ends_of) l16 c16 k16
  have D16 : Dfn K mg "ends_of" s_ends_of ["part"] := ⟨_, _, F16, PySem.W.mg_of X Gn a16, F16.binds (ps := ["part"]) fun _ _ _ _ _ _ us hl => match us, hl with | [_], _ => rfl⟩
  have F17 := fun_mk (st := s_plain_boxes) l17 c17 k17
  have D17 : Dfn K mg "plain_boxes" s_plain_boxes ["wiring"] := ⟨_, _, F17, PySem.W.mg_of X Gn a17, F17.binds (ps := ["wiring"]) fun _ _ _ _ _ _ us hl => match us, hl with | [_], _ => rfl⟩
  have F18 := fun_mk (st := s_shape) l18 c18 k18
  have D18 : Dfn K mg "shape" s_shape ["wiring"] := ⟨_, _, F18, PySem.W.mg_of X Gn a18, F18.binds (ps := ["wiring"]) fun _ _ _ _ _ _ us hl => match us, hl with | [_], _ => rfl⟩
  have F19 := fun_mk (st := s_boxes) l19 c19 k19
  have D19 : Dfn K mg "boxes" s_boxes ["wiring"] := ⟨_, _, F19, PySem.W.mg_of X Gn a19, F19.binds (ps := ["wiring"]) fun _ _ _ _ _ _ us hl => match us, hl with | [_], _ => rfl⟩
  have F20 := fun_mk (st := s_lags) l20 c20 k20
  have D20 : Dfn K mg "lags" s_lags ["wiring"] := ⟨_, _, F20, PySem.W.mg_of X Gn a20, F20.binds (ps := ["wiring"]) fun _ _ _ _ _ _ us hl => match us, hl with | [_], _ => rfl⟩
  have F21 := fun_mk (st := s_law_bag) l21 c21 k21
  have D21 : Dfn K mg "_law_bag" s_law_bag ["_law_script"] := ⟨_, _, F21, PySem.W.mg_of X Gn a21, F21.binds (ps := ["_law_script"]) fun _ _ _ _ _ _ us hl => match us, hl with | [_], _ => rfl⟩
  have F22 := fun_mk (st := s_law_pull) l22 c22 k22
  have D22 : Dfn K mg "_law_pull" s_law_pull ["_law_bag_here", "_law_many"] := ⟨_, _, F22, PySem.W.mg_of X Gn a22, F22.binds (ps := ["_law_bag_here", "_law_many"]) fun _ _ _ _ _ _ us hl => match us, hl with | [_, _], _ => rfl⟩
  have F23 := fun_mk (st := s_law_of) l23 c23 k23
  have D23 : Dfn K mg "_law_of" s_law_of ["_law_bag_here", "_law_some"] := ⟨_, _, F23, PySem.W.mg_of X Gn a23, F23.binds (ps := ["_law_bag_here", "_law_some"]) fun _ _ _ _ _ _ us hl => match us, hl with | [_, _], _ => rfl⟩
  have F24 := fun_mk (st := s_law_box) l24 c24 k24
  have D24 : Dfn K mg "_law_box" s_law_box ["_law_bag_here", "_law_room", "_law_left"] := ⟨_, _, F24, PySem.W.mg_of X Gn a24, F24.binds (ps := ["_law_bag_here", "_law_room", "_law_left"]) fun _ _ _ _ _ _ us hl => match us, hl with | [_, _, _], _ => rfl⟩
  have F25 := fun_mk (st := s_law_layer) l25 c25 k25
  have D25 : Dfn K mg "_law_layer" s_law_layer ["_law_bag_here", "_law_left", "_law_most", "_law_room"] := ⟨_, _, F25, PySem.W.mg_of X Gn a25, F25.binds (ps := ["_law_bag_here", "_law_left", "_law_most", "_law_room"]) fun _ _ _ _ _ _ us hl => match us, hl with | [_, _, _, _], _ => rfl⟩
  have F26 := fun_mk (st := s_law_wiring) l26 c26 k26
  have D26 : Dfn K mg "_law_wiring" s_law_wiring ["_law_bag_here", "_law_left", "_law_most", "_law_few"] := ⟨_, _, F26, PySem.W.mg_of X Gn a26, F26.binds (ps := ["_law_bag_here", "_law_left", "_law_most", "_law_few"]) fun _ _ _ _ _ _ us hl => match us, hl with | [_, _, _, _], _ => rfl⟩
  have F27 := fun_mk (st := s_law_any_wiring) l27 c27 k27
  have D27 : Dfn K mg "_law_any_wiring" s_law_any_wiring ["_law_bag_here", "_law_most", "_law_few"] := ⟨_, _, F27, PySem.W.mg_of X Gn a27, F27.binds (ps := ["_law_bag_here", "_law_most", "_law_few"]) fun _ _ _ _ _ _ us hl => match us, hl with | [_, _, _], _ => rfl⟩
  have F28 := fun_mk (st := s_law_misfit) l28 c28 k28
  have D28 : Dfn K mg "_law_misfit" s_law_misfit ["_law_bag_here", "_law_wiring_here", "_law_left", "_law_right"] := ⟨_, _, F28, PySem.W.mg_of X Gn a28, F28.binds (ps := ["_law_bag_here", "_law_wiring_here", "_law_left", "_law_right"]) fun _ _ _ _ _ _ us hl => match us, hl with | [_, _, _, _], _ => rfl⟩
  have F29 := fun_mk (st := s_law_same) l29 c29 k29
  have D29 : Dfn K mg "_law_same" s_law_same ["_law_got", "_law_due"] := ⟨_, _, F29, PySem.W.mg_of X Gn a29, F29.binds (ps := ["_law_got", "_law_due"]) fun _ _ _ _ _ _ us hl => match us, hl with | [_, _], _ => rfl⟩
  have F30 := fun_mk (st := s_law_tried) l30 c30 k30
  have D30 : Dfn K mg "_law_tried" s_law_tried ["_law_act"] := ⟨_, _, F30, PySem.W.mg_of X Gn a30, F30.binds (ps := ["_law_act"]) fun _ _ _ _ _ _ us hl => match us, hl with | [_], _ => rfl⟩
  have E0 := ec_of xl0 xb0 xo0 xh0 xs0 xt0 xg0 xk0 xw0 xy0
  have E1 := ec_of xl1 xb1 xo1 xh1 xs1 xt1 xg1 xk1 xw1 xy1
  have E2 := ec_of xl2 xb2 xo2 xh2 xs2 xt2 xg2 xk2 xw2 xy2
  have E3 := ec_of xl3 xb3 xo3 xh3 xs3 xt3 xg3 xk3 xw3 xy3
  have Tc : TrCls K mg C1 C2 C0 := ⟨PySem.W.mg_of X Gn xa1, PySem.W.mg_of X Gn xa2, PySem.W.mg_of X Gn xa0, E1.tst, E2.tst, E0.tst⟩
  have FL : FunD K "__init__" "LagError.__init__" i_LagError (.ref dt0) fi0 _ := ⟨_, _, _, _, _, _, _, _, _, rfl, yl0, yc0⟩
  have bL := bd_iLag FL yd0
  have cmL : CMeth K C0 "__init__" fi0 := ⟨ym0, yf0, ys0, yk0⟩
  have FB3 : FunD K "__init__" "Unshaped.__init__" i_Unshaped .none fi3 _ := ⟨_, _, _, _, _, _, _, _, _, rfl, yl3, yc3⟩
  have pl3 : Plain K C1 C2 C0 C3 := ⟨E3.cls, E3.wd, u13, u23, u33⟩
  have xm3 := xmk_of E3 xl3 xb3 zb3 zc3 zn3 yi3 zk3 yl3 zf3
  refine ⟨PySem.W.fnOf "law" "law" (defArgs s_law) (defBody s_law) (defScope s_law) .none kV31 dc31 pm31 an31 (.ref cL) ct31, ⟨_, hCd⟩, fun s v => .of_eq rfl, fun base kb nb hB => ?_⟩
  have c_iLag := ok_iLag (P := l.prog) (w := w) (base := base) (mg := mg) FL h_ValueError
  have c_i3 := ok_iUnshap (P := l.prog) (w := w) (base := base) c_iLag bL cmL (PySem.W.mg_of X Gn xa0) FB3
  have r_Unshaped : Rais l.prog w K mg base "Unshaped" C3 := ⟨fi3, _, xm3, E3, FnOk.any c_i3, bd_iUnshap FB3, PySem.W.mg_of X Gn xa3⟩
  have bT := F30.binds (ps := ["_law_act"]) fun _ _ _ _ _ _ us hl => match us, hl with | [_], _ => rfl
  have c_law_pull := ok_pull (P := l.prog) (w := w) (base := base) D22 T
  have c_law_bag := ok_bag (P := l.prog) (w := w) (base := base) D21 T
  have c_law_of := ok_of (P := l.prog) (w := w) (base := base) D23 T c_law_pull
  have c_is_number := ok_is_number (P := l.prog) (w := w) (base := base) D0 T
  have c_is_weight := ok_is_weight (P := l.prog) (w := w) (base := base) D1 Gp_ c_is_number
  have c_is_copies := ok_is_copies (P := l.prog) (w := w) (base := base) D2 Gp_ c_is_number
  have c_is_filled := ok_is_filled (P := l.prog) (w := w) (base := base) D3 T Gp_
  have c_is_weights := ok_is_weights (P := l.prog) (w := w) (base := base) D4 T c_is_filled c_is_weight
  have c_is_rows := ok_is_rows (P := l.prog) (w := w) (base := base) D5 T c_is_filled c_is_weights
  have c_is_order := ok_is_order (P := l.prog) (w := w) (base := base) D6 T h_sorted c_is_filled c_is_number
  have c_word_of := ok_word_of (P := l.prog) (w := w) (base := base) D7 T
  have c_is_box := ok_is_box (P := l.prog) (w := w) (base := base) D8 T Gp_ Gf_ c_word_of c_is_weight c_is_copies c_is_rows c_is_order
  have c_parts_of := ok_parts_of (P := l.prog) (w := w) (base := base) D9 T c_word_of c_is_filled
  have c_boxes_of := ok_boxes_of (P := l.prog) (w := w) (base := base) D10 T h_reversed Gp_ c_parts_of c_is_box
  have c_box_ends := ok_box_ends (P := l.prog) (w := w) (base := base) D11 T
  have c_then_ends := ok_then_ends (P := l.prog) (w := w) (base := base) D12 T r_Unshaped
  have c_beside_ends := ok_beside_ends (P := l.prog) (w := w) (base := base) D13 T h_sum
  have c_turned_ends := ok_turned_ends (P := l.prog) (w := w) (base := base) D14 T
  have c_ring_ends := ok_ring_ends (P := l.prog) (w := w) (base := base) D15 T r_Unshaped
  have c_ends_of := ok_ends_of (P := l.prog) (w := w) (base := base) D16 T Ge_ r_Unshaped c_parts_of c_box_ends c_then_ends c_beside_ends c_turned_ends c_ring_ends 16
  have c_plain_boxes := ok_plain_boxes (P := l.prog) (w := w) (base := base) D17 T c_boxes_of
  have c_shape := ok_shape (P := l.prog) (w := w) (base := base) D18 c_plain_boxes c_ends_of
  have c_boxes := ok_boxes (P := l.prog) (w := w) (base := base) D19 T c_shape c_boxes_of
  have c_lags := ok_lags (P := l.prog) (w := w) (base := base) D20 T Gp_ c_shape c_boxes_of
  have c_law_box := ok_lbox (P := l.prog) (w := w) (base := base) D24 T c_law_pull c_law_of
  have c_law_layer := ok_layer (P := l.prog) (w := w) (base := base) D25 T c_law_box
  have c_law_wiring := ok_wiring (P := l.prog) (w := w) (base := base) D26 T c_law_pull c_law_layer
  have c_law_any_wiring := ok_anyw (P := l.prog) (w := w) (base := base) D27 T c_law_pull c_law_wiring
  have c_law_misfit := ok_lmisfit (P := l.prog) (w := w) (base := base) D28 T c_law_of
  have c_law_same := ok_sameA (P := l.prog) (w := w) (base := base) D29 T
  have c_law_same := ok_same2 (P := l.prog) (w := w) (base := base) D29 T
  exact ok_law (P := l.prog) (w := w) (base := base) (Tb := Tb) l31 c31 hCd kb hB T F30 bT (PySem.W.mg_of X Gn a30) Tc pl3 c_law_bag c_law_pull c_law_of c_law_any_wiring c_law_misfit c_law_same c_shape c_boxes c_lags
theorem walk {l : PySem.W.OpenLaw} {q : Program} {loose : List Str} {XP : (Str → Option Value) → Heap → Prop} {d : DefRec} {K : Params → PySem.W.Frag} {as : List Addr} {ee : ∀ P, as = (K P).map (·.1)} {ts : List Addr} {T0 : Addr} (hn : l.most = some 63) (hdf : d.params.defaults = []) (hts : ts = [T0]) (nt : ∀ P, PySem.W.noTabs (K P) = true)
    (F : ∀ (w : World) (mg : Str → Option Value) (fa : Addr) (h : Heap), (K w.params).In h → h.Ns mainGlobals mg → mg d.name = some (.ref fa) →
      ∃ (fd : FuncData), ((∃ c, PySem.W.codeHdIn (K w.params) c T0 = true)) ∧ (∀ (s : Shared) (u : Value), BindsTo s fd ⟨[u], []⟩ [("_law_script", u)]) ∧ ∀ base : Heap, (K w.params).In base → base.Ns mainGlobals mg → BmAt mg base → FnOk l.prog w (K w.params) mg base CX0 28 fa fd ["_law_script"] (spLaw (K w.params) T0)) :
    PySem.W.WalkO q loose XP (PySem.W.kmHook K as ee ts).says l.row.toRowW d [] (fun f vs => PySem.call f vs) := by
  subst hts
  refine walk_ofN (n := 63) (k := 28) (x := "_law_script") (CX := fun _ => CX0) (sp := fun w => spLaw (K w.params) T0) hn (by decide) hdf ⟨rfl, by decide, by decide⟩ nt (fun w mg fa h KX G hm => ?_) (fun _ _ a ns hl hT hS => ⟨a, ns, rfl, hS, hl, ⟨#[], hT T0 (by simp), trivial, fun pos cv h => by cases h⟩, fun _ => rfl⟩) fun _ _ _ _ _ z => z
  obtain ⟨fd, hT0, r⟩ := F w mg fa h KX G hm
  refine ⟨fd, fun T hT => ?_, r⟩
  simp only [List.mem_cons, List.not_mem_nil, or_false] at hT
  rcases hT with rfl
  · exact hT0
end L2.Lw
open PySem PySem.W PyProof.Rows
set_option maxRecDepth 100000 in
set_option maxHeartbeats 0 in
theorem PySem.Challenge.cw_lagworks_k16_ends_that_do_not_fit_holds : PySem.Challenge.rw_lagworks_k16_ends_that_do_not_fit.Holds := by
  w_on; o_law; k_head; (case hw => w_witness2)
  k_fill
  refine L2.Lw.walk (l := PySem.Challenge.rw_lagworks_k16_ends_that_do_not_fit) rfl rfl rfl (fun P => by kernel_rfl) ?F
  case F =>
    intro w mg fa h KX G hmg
    refine' L2.Lw.all_mk KX G hmg ?a0 ?l0 ?c0 ?k0 ?a1 ?l1 ?c1 ?k1 ?a2 ?l2 ?c2 ?k2 ?a3 ?l3 ?c3 ?k3 ?a4 ?l4 ?c4 ?k4 ?a5 ?l5 ?c5 ?k5 ?a6 ?l6 ?c6 ?k6 ?a7 ?l7 ?c7 ?k7 ?a8 ?l8 ?c8 ?k8 ?a9 ?l9 ?c9 ?k9 ?a10 ?l10 ?c10 ?k10 ?a11 ?l11 ?c11 ?k11 ?a12 ?l12 ?c12 ?k12 ?a13 ?l13 ?c13 ?k13 ?a14 ?l14 ?c14 ?k14 ?a15 ?l15 ?c15 ?k15 ?a16 ?l16 ?c16 ?k16 ?a17 ?l17 ?c17 ?k17 ?a18 ?l18 ?c18 ?k18 ?a19 ?l19 ?c19 ?k19 ?a20 ?l20 ?c20 ?k20 ?a21 ?l21 ?c21 ?k21 ?a22 ?l22 ?c22 ?k22 ?a23 ?l23 ?c23 ?k23 ?a24 ?l24 ?c24 ?k24 ?a25 ?l25 ?c25 ?k25 ?a26 ?l26 ?c26 ?k26 ?a27 ?l27 ?c27 ?k27 ?a28 ?l28 ?c28 ?k28 ?a29 ?l29 ?c29 ?k29 ?a30 ?l30 ?c30 ?k30 ?a31 ?l31 ?c31 ?k31 ?hCd ?xa0 ?xl0 ?xb0 ?xo0 ?xh0 ?xs0 ?xt0 ?xg0 ?xk0 ?xw0 ?xy0 ?yi0 ?yl0 ?yc0 ?yd0 ?ym0 ?yf0 ?ys0 ?yk0 ?xa1 ?xl1 ?xb1 ?xo1 ?xh1 ?xs1 ?xt1 ?xg1 ?xk1 ?xw1 ?xy1 ?xa2 ?xl2 ?xb2 ?xo2 ?xh2 ?xs2 ?xt2 ?xg2 ?xk2 ?xw2 ?xy2 ?xa3 ?xl3 ?xb3 ?xo3 ?xh3 ?xs3 ?xt3 ?xg3 ?xk3 ?xw3 ?xy3 ?yi3 ?yl3 ?yc3 ?zn3 ?zk3 ?zf3 ?zb3 ?zc3 ?u13 ?u23 ?u33 ?z_len ?z_range ?z_list ?z_tuple ?z_any ?z_all ?z_max ?z_min ?z_isinstance ?z_enumerate ?z_zip ?z_int ?z_bool ?z_str ?z_sorted ?z_reversed ?z_sum ?z_ValueError ?g_MOST_WEIGHT ?r_MOST_WEIGHT ?g_MOST_COPIES ?r_MOST_COPIES ?g_MOST_THINGS ?r_MOST_THINGS ?g_MOST_DEEP ?r_MOST_DEEP ?g_MOST_BOXES ?r_MOST_BOXES ?g_MOST_LAGS ?r_MOST_LAGS ?g_MOST_ENDS ?r_MOST_ENDS ?g_LAG ?l_LAG ?v_LAG ?sz_LAG ?g_BARE_BOXES ?l_BARE_BOXES ?v_BARE_BOXES ?sz_BARE_BOXES ?g_FILLED_BOXES ?l_FILLED_BOXES ?e_FILLED_BOXES ?m_FILLED_BOXES ?g_JOINED_ENDS ?l_JOINED_ENDS ?e_JOINED_ENDS ?m_JOINED_ENDS
    (case a0 => k_is)
    (case l0 => k_is)
    (case c0 => k_is)
    (case k0 => k_is)
    (case a1 => k_is)
    (case l1 => k_is)
    (case c1 => k_is)
    (case k1 => k_is)
    (case a2 => k_is)
    (case l2 => k_is)
    (case c2 => k_is)
    (case k2 => k_is)
    (case a3 => k_is)
    (case l3 => k_is)
    (case c3 => k_is)
    (case k3 => k_is)
    (case a4 => k_is)
    (case l4 => k_is)
    (case c4 => k_is)
    (case k4 => k_is)
    (case a5 => k_is)
    (case l5 => k_is)
    (case c5 => k_is)
    (case k5 => k_is)
    (case a6 => k_is)
    (case l6 => k_is)
    (case c6 => k_is)
    (case k6 => k_is)
    (case a7 => k_is)
    (case l7 => k_is)
    (case c7 => k_is)
    (case k7 => k_is)
    (case a8 => k_is)
    (case l8 => k_is)
    (case c8 => k_is)
    (case k8 => k_is)
    (case a9 => k_is)
    (case l9 => k_is)
    (case c9 => k_is)
    (case k9 => k_is)
    (case a10 => k_is)
    (case l10 => k_is)
    (case c10 => k_is)
    (case k10 => k_is)
    (case a11 => k_is)
    (case l11 => k_is)
    (case c11 => k_is)
    (case k11 => k_is)
    (case a12 => k_is)
    (case l12 => k_is)
    (case c12 => k_is)
    (case k12 => k_is)
    (case a13 => k_is)
    (case l13 => k_is)
    (case c13 => k_is)
    (case k13 => k_is)
    (case a14 => k_is)
    (case l14 => k_is)
    (case c14 => k_is)
    (case k14 => k_is)
    (case a15 => k_is)
    (case l15 => k_is)
    (case c15 => k_is)
    (case k15 => k_is)
    (case a16 => k_is)
    (case l16 => k_is)
    (case c16 => k_is)
    (case k16 => k_is)
    (case a17 => k_is)
    (case l17 => k_is)
    (case c17 => k_is)
    (case k17 => k_is)
    (case a18 => k_is)
    (case l18 => k_is)
    (case c18 => k_is)
    (case k18 => k_is)
    (case a19 => k_is)
    (case l19 => k_is)
    (case c19 => k_is)
    (case k19 => k_is)
    (case a20 => k_is)
    (case l20 => k_is)
    (case c20 => k_is)
    (case k20 => k_is)
    (case a21 => k_is)
    (case l21 => k_is)
    (case c21 => k_is)
    (case k21 => k_is)
    (case a22 => k_is)
    (case l22 => k_is)
    (case c22 => k_is)
    (case k22 => k_is)
    (case a23 => k_is)
    (case l23 => k_is)
    (case c23 => k_is)
    (case k23 => k_is)
    (case a24 => k_is)
    (case l24 => k_is)
    (case c24 => k_is)
    (case k24 => k_is)
    (case a25 => k_is)
    (case l25 => k_is)
    (case c25 => k_is)
    (case k25 => k_is)
    (case a26 => k_is)
    (case l26 => k_is)
    (case c26 => k_is)
    (case k26 => k_is)
    (case a27 => k_is)
    (case l27 => k_is)
    (case c27 => k_is)
    (case k27 => k_is)
    (case a28 => k_is)
    (case l28 => k_is)
    (case c28 => k_is)
    (case k28 => k_is)
    (case a29 => k_is)
    (case l29 => k_is)
    (case c29 => k_is)
    (case k29 => k_is)
    (case a30 => k_is)
    (case l30 => k_is)
    (case c30 => k_is)
    (case k30 => k_is)
    (case a31 => k_is)
    (case l31 => k_is)
    (case c31 => k_is)
    (case k31 => k_is)
    (case hCd => first | k_is | kernel_rfl)
    (case xa0 => k_is)
    (case xl0 => k_is)
    (case xb0 => rfl)
    (case xo0 => rfl)
    (case xh0 => rfl)
    (case xs0 => k_is)
    (case xt0 => k_is)
    (case xg0 => k_is)
    (case xk0 => k_is)
    (case xw0 => k_is)
    (case xy0 => k_is)
    (case yi0 => k_is)
    (case yl0 => k_is)
    (case yc0 => k_is)
    (case yd0 => k_is)
    (case ym0 => k_is)
    (case yf0 => k_is)
    (case ys0 => k_is)
    (case yk0 => k_is)
    (case xa1 => k_is)
    (case xl1 => k_is)
    (case xb1 => rfl)
    (case xo1 => rfl)
    (case xh1 => rfl)
    (case xs1 => k_is)
    (case xt1 => k_is)
    (case xg1 => k_is)
    (case xk1 => k_is)
    (case xw1 => k_is)
    (case xy1 => k_is)
    (case xa2 => k_is)
    (case xl2 => k_is)
    (case xb2 => rfl)
    (case xo2 => rfl)
    (case xh2 => rfl)
    (case xs2 => k_is)
    (case xt2 => k_is)
    (case xg2 => k_is)
    (case xk2 => k_is)
    (case xw2 => k_is)
    (case xy2 => k_is)
    (case xa3 => k_is)
    (case xl3 => k_is)
    (case xb3 => rfl)
    (case xo3 => rfl)
    (case xh3 => rfl)
    (case xs3 => k_is)
    (case xt3 => k_is)
    (case xg3 => k_is)
    (case xk3 => k_is)
    (case xw3 => k_is)
    (case xy3 => k_is)
    (case yi3 => k_is)
    (case yl3 => k_is)
    (case yc3 => k_is)
    (case zn3 => first | k_is | kernel_rfl)
    (case zk3 => k_is)
    (case zf3 => rfl)
    (case zb3 => exact PySem.F.excBase_ValueError)
    (case zc3 => first | rfl | decide | kernel_rfl)
    (case u13 => k_is)
    (case u23 => k_is)
    (case u33 => k_is)
    (case z_len => k_is)
    (case z_range => k_is)
    (case z_list => k_is)
    (case z_tuple => k_is)
    (case z_any => k_is)
    (case z_all => k_is)
    (case z_max => k_is)
    (case z_min => k_is)
    (case z_isinstance => k_is)
    (case z_enumerate => k_is)
    (case z_zip => k_is)
    (case z_int => k_is)
    (case z_bool => k_is)
    (case z_str => k_is)
    (case z_sorted => k_is)
    (case z_reversed => k_is)
    (case z_sum => k_is)
    (case z_ValueError => k_is)
    (case g_MOST_WEIGHT => k_is)
    (case r_MOST_WEIGHT => exact ⟨_, rfl⟩)
    (case g_MOST_COPIES => k_is)
    (case r_MOST_COPIES => exact ⟨_, rfl⟩)
    (case g_MOST_THINGS => k_is)
    (case r_MOST_THINGS => exact ⟨_, rfl⟩)
    (case g_MOST_DEEP => k_is)
    (case r_MOST_DEEP => exact ⟨_, rfl⟩)
    (case g_MOST_BOXES => k_is)
    (case r_MOST_BOXES => exact ⟨_, rfl⟩)
    (case g_MOST_LAGS => k_is)
    (case r_MOST_LAGS => exact ⟨_, rfl⟩)
    (case g_MOST_ENDS => k_is)
    (case r_MOST_ENDS => exact ⟨_, rfl⟩)
    (case g_LAG => k_is)
    (case l_LAG => k_is)
    (case v_LAG => exact .cons ⟨_, rfl⟩ (.nil))
    (case sz_LAG => decide)
    (case g_BARE_BOXES => k_is)
    (case l_BARE_BOXES => k_is)
    (case v_BARE_BOXES => exact .cons ⟨_, rfl⟩ (.cons ⟨_, rfl⟩ (.nil)))
    (case sz_BARE_BOXES => decide)
    (case g_FILLED_BOXES => k_is)
    (case l_FILLED_BOXES => k_is)
    (case e_FILLED_BOXES => exact ⟨⟨rfl, ⟨_, rfl⟩, rfl⟩, ⟨⟨rfl, ⟨_, rfl⟩, rfl⟩, ⟨⟨rfl, ⟨_, rfl⟩, rfl⟩, ⟨⟨rfl, ⟨_, rfl⟩, rfl⟩, ⟨⟨rfl, ⟨_, rfl⟩, rfl⟩, ⟨⟨rfl, ⟨_, rfl⟩, rfl⟩, trivial⟩⟩⟩⟩⟩⟩)
    (case m_FILLED_BOXES => decide)
    (case g_JOINED_ENDS => k_is)
    (case l_JOINED_ENDS => k_is)
    (case e_JOINED_ENDS => exact ⟨⟨rfl, ⟨_, rfl⟩, rfl⟩, ⟨⟨rfl, ⟨_, rfl⟩, rfl⟩, ⟨⟨rfl, ⟨_, rfl⟩, rfl⟩, ⟨⟨rfl, ⟨_, rfl⟩, rfl⟩, trivial⟩⟩⟩⟩)
    (case m_JOINED_ENDS => decide)
