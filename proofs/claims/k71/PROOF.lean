import PyProof.Rows.All
import Wide.All
import OpenK.AllK
import Wide.FinOn
import Lean
import PyProof.EqAt
import PyProof.EqKinds
import PyProof.TupleCall
import PyProof.Draws
import PyProof.EnumMake
import PyProof.WalksEnum
import PyProof.TupleIter
import PyProof.NeData
import PyProof.WalksMore
import PyProof.Rows.StrJoin2
import PyProof.StrWalks
import PyProof.StrBlockH
import PyProof.StrLawsTight
import PyProof.Rows.StrItems
import OpenK.KOwn
import PyProof.NsDelKeeps
import PyProof.RulesAs
import PyProof.ExcAttrAll.ValueError
import PyProof.ZipIter
import PyProof.SumWalkG
import PyProof.CompUse
import PyProof.StrLawsChain
import KE.KSortAsk
import KE.KSortTup
import PyProof.MinMaxWalk
import PyProof.WalkInts
import PyProof.FitsBits
import PyProof.DictRoadsH
import PyProof.Rows.SetFrom
import PyProof.FactsAll.set
import PyProof.DictWalks
import PySem.Challenge.RW_squaresheet_k71_reached_closed
set_option Elab.async false
set_option linter.all false
set_option maxRecDepth 100000
namespace L2
open PySem PySem.Spec PyProof.Rows

/-- a key: an int or a str -/
abbrev Key := Sum Int Str
def keyIs : Key → Value → Bool
  | .inl k, v => Value.isInt k v
  | .inr x, v => Value.isStrOf x v
def keyH (w : World) : Key → Int
  | .inl k => hashInt k
  | .inr x => hashStr w x
theorem keyIs_shape : ∀ {k : Key} {v : Value}, keyIs k v = true → (∃ i t, k = Sum.inl i ∧ v = Value.int i t) ∨ (∃ x t, k = Sum.inr x ∧ v = Value.str x t)
  | .inl i, v, h => by
    obtain ⟨t, e⟩ := Value.isInt_shape (k := i) (v := v) h
    exact .inl ⟨i, t, rfl, e⟩
  | .inr x, v, h => by
    obtain ⟨t, e⟩ := Value.isStrOf_shape (x := x) (v := v) h
    exact .inr ⟨x, t, rfl, e⟩
theorem keyIs_int (i : Int) (t : Tok) : keyIs (.inl i) (.int i t) = true := by simp [keyIs, Value.isInt]
theorem keyIs_str (x : Str) (t : Tok) : keyIs (.inr x) (.str x t) = true := by simp [keyIs, Value.isStrOf]
theorem key_ll (a b : Int) : decide ((Sum.inl a : Key) = Sum.inl b) = (a == b) := by
  by_cases e : a = b
  · subst e; simp
  · have h : ¬ (Sum.inl a : Key) = Sum.inl b := fun q => e (Sum.inl.inj q)
    rw [decide_eq_false h]
    exact (beq_eq_false_iff_ne.mpr e).symm
theorem key_rr (a b : Str) : decide ((Sum.inr a : Key) = Sum.inr b) = decide (a = b) := by
  by_cases e : a = b
  · subst e; simp
  · have h : ¬ (Sum.inr a : Key) = Sum.inr b := fun q => e (Sum.inr.inj q)
    rw [decide_eq_false h, decide_eq_false e]
theorem key_lr (a : Int) (b : Str) : decide ((Sum.inl a : Key) = Sum.inr b) = false := decide_eq_false (fun q => nomatch q)
theorem key_rl (a : Str) (b : Int) : decide ((Sum.inr a : Key) = Sum.inl b) = false := decide_eq_false (fun q => nomatch q)

def mixKind (prog : Program) (w : World) : PySem.KeyKind prog w Key where
  is := keyIs
  hash := keyH w
  inj := fun v a b ha hb => by
    rcases keyIs_shape ha with ⟨i, t, rfl, rfl⟩ | ⟨x, t, rfl, rfl⟩
    · rcases keyIs_shape hb with ⟨j, u, rfl, e⟩ | ⟨y, u, rfl, e⟩
      · injection e with e1 _; rw [e1]
      · exact nomatch e
    · rcases keyIs_shape hb with ⟨j, u, rfl, e⟩ | ⟨y, u, rfl, e⟩
      · exact nomatch e
      · injection e with e1 _; rw [e1]
  byValue := fun k v h => by
    rcases keyIs_shape h with ⟨i, t, rfl, rfl⟩ | ⟨x, t, rfl, rfl⟩ <;> rfl
  pyHash := fun hv h => by
    rcases keyIs_shape hv with ⟨i, t, rfl, rfl⟩ | ⟨x, t, rfl, rfl⟩
    · exact wpAny_pyHash_int h
    · exact wpAny_pyHash_str h
  eqBool := fun hu hv h => by
    rcases keyIs_shape hu with ⟨i, t, rfl, rfl⟩ | ⟨x, t, rfl, rfl⟩
    · rcases keyIs_shape hv with ⟨j, u, rfl, rfl⟩ | ⟨y, u, rfl, rfl⟩
      · rw [key_ll] at h; exact wpAny_eqBool_int h
      · rw [key_lr] at h; exact SeqAt.EqAt.int_str i t y u _ _ _ _ h
    · rcases keyIs_shape hv with ⟨j, u, rfl, rfl⟩ | ⟨y, u, rfl, rfl⟩
      · rw [key_rl] at h; exact SeqAt.EqAt.str_int x t j u _ _ _ _ h
      · rw [key_rr] at h; exact wpAny_eqBool_str h
  «strs» := fun k x t v h => by
    rcases keyIs_shape h with ⟨i, u, rfl, e⟩ | ⟨y, u, rfl, e⟩
    · exact nomatch e
    · injection e with e1 _
      subst e1
      cases v <;> rfl

theorem mixKind_int (prog : Program) (w : World) (i : Int) (t : Tok) : (mixKind prog w).is (.inl i) (.int i t) = true := keyIs_int i t
theorem mixKind_str (prog : Program) (w : World) (x : Str) (t : Tok) : (mixKind prog w).is (.inr x) (.str x t) = true := keyIs_str x t
end L2

namespace L2
open PySem PySem.Spec PyProof.Rows

/-- a value, without the heap -/
inductive V where
  | non | bl (b : Bool) | int (i : Int) | str (x : Str) | byt (b : Array UInt8) | flt (b : UInt64) | ref (a : Addr) | ty (n : String)
  deriving DecidableEq

def RelV : V → Value → Prop
  | .non, u => u = Value.none
  | .bl b, u => u = Value.bool b
  | .int i, u => ∃ t, u = Value.int i t
  | .str x, u => ∃ t, u = Value.str x t
  | .byt b, u => ∃ t, u = Value.bytes b t
  | .flt b, u => ∃ t, u = Value.float b t
  | .ref a, u => u = Value.ref a
  | .ty n, u => u = Value.type n

abbrev Vals : List V → List Value → Prop := Paired RelV
theorem Vals.length {xs : List V} {us : List Value} (r : Vals xs us) : xs.length = us.length := Paired.length r
theorem Vals.get : ∀ {xs : List V} {us : List Value} {i : Nat} {x : V}, Vals xs us → xs[i]? = some x → ∃ u, us[i]? = some u ∧ RelV x u
  | _, _, _, _, .nil, e => by simp at e
  | _, _, 0, _, .cons r _, e => by simp at e; subst e; exact ⟨_, rfl, r⟩
  | _, _, i + 1, x, .cons _ t, e => by
    obtain ⟨u, h1, h2⟩ := Vals.get (i := i) (x := x) t (by simpa using e)
    exact ⟨u, by simpa using h1, h2⟩
theorem Vals.set {x : V} {u : Value} (r : RelV x u) : ∀ {xs : List V} {us : List Value} (i : Nat), Vals xs us → Vals (xs.set i x) (us.set i u)
  | _, _, _, .nil => .nil
  | _, _, 0, .cons _ t => .cons r t
  | _, _, i + 1, .cons q t => .cons q (Vals.set r i t)
theorem Vals.append : ∀ {xs ys : List V} {us ws : List Value}, Vals xs us → Vals ys ws → Vals (xs ++ ys) (us ++ ws)
  | _, _, _, _, .nil, s => s
  | _, _, _, _, .cons r t, s => .cons r (Vals.append t s)
theorem Vals.take : ∀ {xs : List V} {us : List Value} (n : Nat), Vals xs us → Vals (xs.take n) (us.take n)
  | _, _, 0, _ => .nil
  | _, _, _ + 1, .nil => .nil
  | _, _, n + 1, .cons r t => .cons r (Vals.take n t)
theorem Vals.drop : ∀ {xs : List V} {us : List Value} (n : Nat), Vals xs us → Vals (xs.drop n) (us.drop n)
  | _, _, 0, r => r
  | _, _, _ + 1, .nil => .nil
  | _, _, n + 1, .cons _ t => Vals.drop n t
def RelO : Option V → Option Value → Prop
  | some v, some u => RelV v u
  | none, none => True
  | _, _ => False
def KV {κ : Type} : List (κ × V) → List (κ × Value) → Prop := Paired fun (p : κ × V) (q : κ × Value) => p.1 = q.1 ∧ RelV p.2 q.2

/-- a key of a dict (00_mix): an int or a text -/
def kV : Key → V
  | .inl i => .int i
  | .inr x => .str x

/-- what stands at a tracked address -/
inductive HO where
  /-- a list -/
  | lst (xs : List V)
  /-- a tuple (never changes) -/
  | tup (xs : List V)
  /-- a dict whose keys are ints and texts; one whose keys are tuples of ints and texts (the empty one is both) -/
  | dK (kvs : List (Key × V)) | dT (kvs : List (List Key × V))
  /-- a set of ints: its members, its size -/
  | set (S : Int → Bool) (n : Nat)
  /-- an instance of the class at C, its dict at dx, its attributes -/
  | ins (C dx : Addr) (fs : List (Str × V))
  /-- the dict of the instance at x -/
  | own (x : Addr)
  /-- the dict of an exception -/
  | xd (fs : List (Str × V))
  /-- a bound method, f of x -/
  | met (f x : Addr)
  /-- a range object lo, lo + 1, .. below hi -/
  | rng (lo hi : Int)
  /-- a thing that is known to the object (the script; a dict while a loop walks it): read, never written while it is so -/
  | frz (o : Obj) (u : HO)
  /-- a code object's table -/
  | tbl (ps : Array Value)
  /-- any other thing, by what is true of its one object (a def of one's own: SetO a S n := HO.ext fun h => ..) -/
  | ext (φ : Heap → Prop)

abbrev Hp := Addr → Option HO
def upd (H : Hp) (a : Addr) (o : HO) : Hp := fun b => if b = a then some o else H b
theorem upd_same {H : Hp} {a : Addr} {o : HO} : upd H a o a = some o := by unfold upd; rw [if_pos rfl]
theorem upd_ne {H : Hp} {a b : Addr} {o : HO} (h : b ≠ a) : upd H a o b = H b := by unfold upd; rw [if_neg h]
/-- two objects of different content stand apart -/
theorem ne_of {H : Hp} {a b : Addr} {o u : HO} (h : H a = some o) (h' : H b = some u) (d : o ≠ u) : a ≠ b := by
  intro e; subst e; rw [h] at h'; exact d (Option.some.inj h')
theorem ne_of_none {H : Hp} {a b : Addr} {o : HO} (h : H a = some o) (h' : H b = none) : a ≠ b := by
  intro e; subst e; rw [h] at h'; cases h'

section
variable (P : Program) (w : World)
/-- the object has no dict -/
def NoD (h : Heap) (a : Addr) : Prop := ∃ o, h.get? a = some o ∧ o.dict = none
def ObjOk (H : Hp) (h : Heap) (a : Addr) : HO → Prop
  | .lst xs => xs.length ≤ sizeLine ∧ ∃ (its : List Value) (n : Nat), Vals xs its ∧ h.get? a = some { cls := .type "list", data := .seq its.toArray n }
  | .tup xs => (xs.length ≤ sizeLine ∧ NoD h a) ∧ ∃ its : List Value, Vals xs its ∧ IsTup h a its.toArray
  | .dK kvs => kvs.length ≤ sizeLine ∧ (a == sysModules) = false ∧ ∃ vs, KV kvs vs ∧ h.DictOf (mixKind P w) a vs
  | .dT kvs => kvs.length ≤ sizeLine ∧ (a == sysModules) = false ∧ ∃ xs : List (List Key × Addr × Value),
      Paired (fun (p : List Key × V) (q : List Key × Addr × Value) => p.1 = q.1 ∧ H q.2.1 = some (.tup (p.1.map kV)) ∧ RelV p.2 q.2.2) kvs xs ∧
      ∃ o es ep, h.get? a = some o ∧ o.ExactDict ∧ o.data = .dict es ep ∧ es.toList = xs.map (entryOfKey (tupleKind (mixKind P w))) ∧ (xs.map (·.1)).Nodup
  | .set S n => h.SetOf (intKind P w) a S n
  | .ins C dx fs => H dx = some (.own a) ∧ fs.length ≤ 1000 ∧ dx ≠ a ∧ h.get? a = some (PySem.W.instObj C dx) ∧
      ∃ mA, h.Ns1 dx mA ∧ (∀ f, RelO (fs.lookup f) (mA f)) ∧ PySem.Within mA (fs.map (·.1))
  | .own _ => ∃ o, h.get? a = some o
  | .xd fs => ∃ mA, h.Ns1 a mA ∧ ∀ f, RelO (fs.lookup f) (mA f)
  | .rng lo hi => ∃ t u v, h.get? a = some { cls := .type "range", data := .fields #[.int lo t, .int hi u, .int 1 v] }
  | .frz o u => h.get? a = some o ∧ ObjOk H h a u
  | .tbl ps => h.get? a = some { cls := .none, data := .fields ps }
  | .met f x => h.get? a = some (PySem.W.methodObj (.ref f) (.ref x))
  | .ext φ => φ h ∧ (∃ o, h.get? a = some o) ∧ ∀ h1 h2 : Heap, φ h1 → (∀ o, h1.get? a = some o → h2.get? a = some o) → φ h2
/-- the abstract heap is held -/
def HOk (H : Hp) (h : Heap) : Prop := ∀ a o, H a = some o → ObjOk P w H h a o
end

section
variable {P : Program} {w : World} {H H' : Hp} {h h' : Heap} {a : Addr} {o : HO}
theorem ObjOk.lt (x : ObjOk P w H h a o) : a < h.objs.size := by
  cases o with
  | lst xs => obtain ⟨_, _, _, _, e⟩ := x; exact Heap.lt_size e
  | tup xs => obtain ⟨_, _, _, p⟩ := x; exact p.lt
  | dK kvs => obtain ⟨_, _, _, _, o, _, _, e, _⟩ := x; exact Heap.lt_size e
  | dT kvs => obtain ⟨_, _, _, _, o, _, _, e, _⟩ := x; exact Heap.lt_size e
  | set S n => obtain ⟨o, _, _, _, e, _⟩ := x; exact Heap.lt_size e
  | ins C dx fs => obtain ⟨_, _, _, e, _⟩ := x; exact Heap.lt_size e
  | own y => obtain ⟨_, e⟩ := x; exact Heap.lt_size e
  | xd fs => obtain ⟨_, ⟨_, _, _, e, _⟩, _⟩ := x; exact Heap.lt_size e
  | rng lo hi => obtain ⟨_, _, _, e⟩ := x; exact Heap.lt_size e
  | frz ob u => obtain ⟨e, _⟩ := x; exact Heap.lt_size e
  | tbl ps => exact Heap.lt_size (show h.get? a = some _ from x)
  | met f y => exact Heap.lt_size (show h.get? a = some _ from x)
  | ext φ => obtain ⟨_, ⟨_, e⟩, _⟩ := x; exact Heap.lt_size e
theorem Paired.mapP {α β : Type} {F G : α → β → Prop} : ∀ {l₁ : List α} {l₂ : List β}, Paired F l₁ l₂ → (∀ a b, F a b → G a b) → Paired G l₁ l₂
  | _, _, .nil, _ => .nil
  | _, _, .cons r t, f => .cons (f _ _ r) (Paired.mapP t f)
/-- what an object's description leans on: its own object, its own dict, the tuples -/
theorem ObjOk.stay (x : ObjOk P w H h a o) (k : ∀ b u, (b = a ∨ H b = some (.own a)) → h.get? b = some u → h'.get? b = some u)
    (ho : ∀ b, H b = some (.own a) → H' b = some (.own a)) (ht : ∀ b xs, H b = some (.tup xs) → H' b = some (.tup xs)) : ObjOk P w H' h' a o := by
  induction o with
  | lst xs => obtain ⟨z, its, n, r, e⟩ := x; exact ⟨z, its, n, r, k _ _ (.inl rfl) e⟩
  | tup xs => obtain ⟨z, its, r, ob, e, c⟩ := x; exact ⟨⟨z.1, z.2.imp fun _ q => ⟨k _ _ (.inl rfl) q.1, q.2⟩⟩, its, r, ob, k _ _ (.inl rfl) e, c⟩
  | dK kvs => obtain ⟨z, y, vs, r, ob, es, ep, e, c⟩ := x; exact ⟨z, y, vs, r, ob, es, ep, k _ _ (.inl rfl) e, c⟩
  | dT kvs =>
    obtain ⟨z, y, xs, r, ob, es, ep, e, c⟩ := x
    exact ⟨z, y, xs, Paired.mapP r fun p q z => ⟨z.1, ht _ _ z.2.1, z.2.2⟩, ob, es, ep, k _ _ (.inl rfl) e, c⟩
  | set S n => obtain ⟨ob, es, ep, t, e, c⟩ := x; exact ⟨ob, es, ep, t, k _ _ (.inl rfl) e, c⟩
  | ins C dx fs =>
    obtain ⟨d, z, ne, e, mA, ⟨od, es, ep, e2, c⟩, r⟩ := x
    exact ⟨ho _ d, z, ne, k _ _ (.inl rfl) e, mA, ⟨od, es, ep, k _ _ (.inr d) e2, c⟩, r⟩
  | own y => obtain ⟨ob, e⟩ := x; exact ⟨ob, k _ _ (.inl rfl) e⟩
  | xd fs => obtain ⟨mA, ⟨od, es, ep, e, c⟩, r⟩ := x; exact ⟨mA, ⟨od, es, ep, k _ _ (.inl rfl) e, c⟩, r⟩
  | rng lo hi => obtain ⟨t, u, v, e⟩ := x; exact ⟨t, u, v, k _ _ (.inl rfl) e⟩
  | frz ob u ih => obtain ⟨e, q⟩ := x; exact ⟨k _ _ (.inl rfl) e, ih q⟩
  | tbl ps =>
    have e : h.get? a = some { cls := .none, data := .fields ps } := x
    show h'.get? a = some { cls := .none, data := .fields ps }
    exact k a _ (.inl rfl) e
  | met f y =>
    have e : h.get? a = some (PySem.W.methodObj (.ref f) (.ref y)) := x
    show h'.get? a = some (PySem.W.methodObj (.ref f) (.ref y))
    exact k a _ (.inl rfl) e
  | ext φ => obtain ⟨p, ⟨o, e⟩, st⟩ := x; exact ⟨st _ _ p fun o q => k _ _ (.inl rfl) q, ⟨o, k _ _ (.inl rfl) e⟩, st⟩
theorem HOk.lt (x : HOk P w H h) (e : H a = some o) : a < h.objs.size := (x a o e).lt
theorem HOk.fresh (x : HOk P w H h) (e : h.objs.size ≤ a) : H a = none := by
  cases q : H a with
  | none => rfl
  | some u => exact absurd (Nat.lt_of_lt_of_le (x.lt q) e) (Nat.lt_irrefl _)
/-- every object of the heap is kept -/
theorem HOk.kept (x : HOk P w H h) (k : ∀ b u, h.get? b = some u → h'.get? b = some u) : HOk P w H h' := fun a o e =>
  (x a o e).stay (fun b u _ q => k b u q) (fun _ q => q) fun _ _ q => q
/-- a new object is laid and tracked -/
theorem HOk.laid (x : HOk P w H h) (k : ∀ b u, h.get? b = some u → h'.get? b = some u) (hp : h.objs.size ≤ a) (new : ObjOk P w (upd H a o) h' a o) : HOk P w (upd H a o) h' := fun b u e => by
  have hn := x.fresh hp
  by_cases hb : b = a
  · subst hb; rw [upd_same] at e; cases e; exact new
  · rw [upd_ne hb] at e
    exact (x b u e).stay (fun c v _ q => k c v q) (fun c q => by rw [upd_ne (ne_of_none q hn)]; exact q) fun c xs q => by rw [upd_ne (ne_of_none q hn)]; exact q
end

/-- what may be read as u: it is u, or a known u -/
def Rd (H : Hp) (a : Addr) (u : HO) : Prop := H a = some u ∨ ∃ o, H a = some (.frz o u)
theorem Rd.ok {P : Program} {w : World} {H : Hp} {h : Heap} {a : Addr} {u : HO} (r : Rd H a u) (x : HOk P w H h) : ObjOk P w H h a u := by
  rcases r with r | ⟨o, r⟩
  · exact x a u r
  · obtain ⟨_, q⟩ := x a _ r
    exact q
/-- what may be written -/
def Mut : Option HO → Prop
  | some (.lst _) => True
  | some (.dK _) => True
  | some (.dT _) => True
  | some (.set _ _) => True
  | some (.ins _ _ _) => True
  | some (.ext _) => True
  | _ => False
section
variable {P : Program} {w : World} {H : Hp} {h h' : Heap} {x e : Addr} {o' : HO}
/-- the object at e is changed: x itself, or the dict of the instance x -/
theorem HOk.write (ok : HOk P w H h) (mu : Mut (H x)) (he : e = x ∨ H e = some (.own x)) (k : ∀ b u, b ≠ e → h.get? b = some u → h'.get? b = some u) (heo : ∃ u, h'.get? e = some u)
    (new : ObjOk P w (upd H x o') h' x o') : HOk P w (upd H x o') h' := fun b u q => by
  have nown : ∀ c y, H c = some (.own y) → c ≠ x := fun c y r z => by subst z; rw [r] at mu; exact mu
  have ntup : ∀ c xs, H c = some (.tup xs) → c ≠ x := fun c xs r z => by subst z; rw [r] at mu; exact mu
  by_cases hb : b = x
  · subst hb; rw [upd_same] at q; cases q; exact new
  · rw [upd_ne hb] at q
    by_cases hbe : b = e
    · have q' : H b = some (.own x) := by
        rcases he with z | z
        · exact absurd (hbe.trans z) hb
        · rw [hbe]; exact z
      rw [q] at q'; cases q'
      obtain ⟨v, hv⟩ := heo
      exact ⟨v, by rw [hbe]; exact hv⟩
    · refine (ok b u q).stay (fun c v hc r => k c v ?_ r) (fun c r => by rw [upd_ne (nown c b r)]; exact r) fun c xs r => by rw [upd_ne (ntup c xs r)]; exact r
      rcases hc with rfl | hc
      · exact hbe
      · rintro rfl
        rcases he with z | z
        · exact nown c b hc z
        · rw [hc] at z; cases z; exact hb rfl
end

structure Un (fs ex : List Addr) (H H' : Hp) (h h' : Heap) : Prop where
  keep : ∀ b o, h.get? b = some o → H b = none → b ∉ fs → b ∉ ex → h'.get? b = some o
  slot : ∀ b o, h.get? b = some o → H b = none → b ∈ fs → b ∉ ex → ∃ sl, h'.get? b = some { o with slots := sl }
  free : ∀ b o, h.get? b = some o → H b = none → b ∉ ex → H' b = none
  there : ∀ b o, h.get? b = some o → b ∉ ex → ∃ o', h'.get? b = some o'
  tups : ∀ b xs, H b = some (.tup xs) → H' b = some (.tup xs)
  frzs : ∀ b o u, H b = some (.frz o u) → H' b = some (.frz o u)
  tbls : ∀ b ps, H b = some (.tbl ps) → ∃ more, H' b = some (.tbl (ps ++ more))
section
variable {fs fs' ex ex' : List Addr} {H H1 H2 : Hp} {h h1 h2 h' : Heap} {a x e : Addr} {o : HO}
theorem Un.any (u : Un fs ex H H1 h h1) {b : Addr} {ob : Obj} (q : h.get? b = some ob) (n : H b = none) (hx : b ∉ ex) : ∃ sl, h1.get? b = some { ob with slots := sl } := by
  by_cases hb : b ∈ fs
  · exact u.slot b ob q n hb hx
  · exact ⟨ob.slots, u.keep b ob q n hb hx⟩
theorem Un.kept (k : ∀ b u, h.get? b = some u → h'.get? b = some u) : Un fs ex H H h h' :=
  ⟨fun b ob q _ _ _ => k b ob q, fun b ob q _ _ _ => ⟨ob.slots, k b ob q⟩, fun _ _ _ n _ => n, fun b ob q _ => ⟨ob, k b ob q⟩, fun _ _ q => q, fun _ _ _ q => q, fun _ ps q => ⟨#[], by rw [q]; simp⟩⟩
theorem Un.refl : Un fs ex H H h h := Un.kept fun _ _ q => q
theorem Un.laid (k : ∀ b u, h.get? b = some u → h'.get? b = some u) (hp : h.objs.size ≤ a) (hn : H a = none) : Un fs ex H (upd H a o) h h' where
  keep := fun b u q _ _ _ => k b u q
  slot := fun b u q _ _ _ => ⟨u.slots, k b u q⟩
  free := fun b u q n _ => by rw [upd_ne (Nat.ne_of_lt (Nat.lt_of_lt_of_le (Heap.lt_size q) hp))]; exact n
  there := fun b u q _ => ⟨u, k b u q⟩
  tups := fun b xs q => by rw [upd_ne (ne_of_none q hn)]; exact q
  frzs := fun b u xs q => by rw [upd_ne (ne_of_none q hn)]; exact q
  tbls := fun b ps q => ⟨#[], by rw [upd_ne (ne_of_none q hn), q]; simp⟩
theorem Un.write (mu : Mut (H x)) (he : e = x ∨ H e = some (.own x)) (k : ∀ b u, b ≠ e → h.get? b = some u → h'.get? b = some u) (heo : ∃ u, h'.get? e = some u) : Un fs ex H (upd H x o) h h' := by
  have hx : ∀ b, H b = none → b ≠ x := fun b n z => by subst z; rw [n] at mu; exact mu
  have hb : ∀ b, H b = none → b ≠ e := fun b n z => by
    subst z
    rcases he with r | r
    · exact hx b n r
    · rw [n] at r; cases r
  have hm : ∀ b u, H b = some u → ¬ Mut (some u) → b ≠ x := fun b u q nm z => by subst z; rw [q] at mu; exact nm mu
  refine ⟨fun b u q n _ _ => k b u (hb b n) q, fun b u q n _ _ => ⟨u.slots, k b u (hb b n) q⟩, fun b u q n _ => by rw [upd_ne (hx b n)]; exact n, fun b u q _ => ?_,
    fun b xs q => by rw [upd_ne (hm b _ q fun z => z)]; exact q, fun b u xs q => by rw [upd_ne (hm b _ q fun z => z)]; exact q, fun b ps q => ⟨#[], by rw [upd_ne (hm b _ q fun z => z), q]; simp⟩⟩
  by_cases hbe : b = e
  · subst hbe; exact heo
  · exact ⟨u, k b u hbe q⟩
end

def trk (h : Heap) (H : Hp) : List Addr := (List.range h.objs.size).filter fun a => (H a).isSome
def hidT (h : Heap) (H : Hp) : Heap := PySem.W.hideAll h (trk h H)
theorem hidT_size (h : Heap) (H : Hp) : (hidT h H).objs.size = h.objs.size := PySem.W.hideAll_size _ _
theorem hidT_get {h : Heap} {H : Hp} {b : Addr} {o : Obj} (e : h.get? b = some o) (n : H b = none) : (hidT h H).get? b = some o :=
  PySem.W.hideAll_get _ e fun hm => by
    have q : (H b).isSome = true := (List.mem_filter.mp hm).2
    rw [n] at q; simp at q
theorem of_hidT {h : Heap} {H : Hp} {b : Addr} {o : Obj} (e : (hidT h H).get? b = some o) : h.get? b = some o ∧ H b = none := by
  have e' : h.get? b = some o := PySem.W.of_hideAll (trk h H) e
  refine ⟨e', ?_⟩
  cases q : H b with
  | none => rfl
  | some x =>
    have hm : b ∈ trk h H := List.mem_filter.mpr ⟨List.mem_range.mpr (Heap.lt_size e'), by simp [q]⟩
    have z : (hidT h H).get? b = none := PySem.W.hideAll_none (trk h H) hm
    rw [z] at e; cases e

end L2

namespace L2
open PySem PySem.Spec PyProof.Rows

/-- the module's facts, over the base: the heap at the law's entry without what is tracked there -/
structure Mod (K : PySem.W.Frag) (mg : Str → Option Value) (base : Heap) : Prop where
  kin : K.In base
  glob : base.Ns mainGlobals mg
  blt : ∃ mb, base.Ns builtinsNs mb ∧ ∀ x : Str, x ≠ "__name__" → mb x = bootBuiltins x
  nolimit : base.NoLimit

/-- the context: a def's body (or a comprehension's block) running. base: fixed through the whole law; s₀, H₀: the entry; outer: the frames whose slots others may change (a def's callers); stack: all frames that run;
   ex: iterators that were made ahead of the entry and are walked here (a comprehension's); fn: the names whose cells were made at the entry (a def: all; a comprehension's block: its own); calm: not within an except suite; pn: pins that every state bears; xe: what is wanted of an exception that leaves the code -/
structure Cx where
  prog : Program
  w : World
  K : PySem.W.Frag
  mg : Str → Option Value
  base : Heap
  A : Around
  N : List Str
  s₀ : Shared
  H₀ : Hp
  env : Env
  outer : List Env
  stack : List Env
  ex : List Addr
  fn : Str → Bool
  calm : Bool
  pn : List (Addr × Obj)
  xe : Value → Shared → Prop
/-- the callers' frames -/
def frs (l : List Env) : List Addr := l.filterMap (·.frame)
abbrev Cx.fs (X : Cx) : List Addr := frs X.outer

def Vis (sc : Scope) (x : Str) : Prop := sc.names.lookup x = some .local ∨ sc.names.lookup x = some .cell ∨ sc.names.lookup x = some .free
def Loc (sc : Scope) (x : Str) : Prop := sc.names.lookup x = some .local ∨ sc.names.lookup x = some .cell
def Look (env : Env) (h : Heap) (m : Str → Option Value) (x : Str) (u : Value) : Prop :=
  (env.kindOf x = some .local ∧ m x = some u) ∨ ((env.kindOf x = some .cell ∨ env.kindOf x = some .free) ∧ ∃ c, env.cells.lookup x = some c ∧ h.IsCell c (some u))

structure Cx.Ok (X : Cx) : Prop where
  mod : Mod X.K X.mg X.base
  kind : X.env.scope.kind = .function
  glob : X.env.globals = mainGlobals
  blt : X.env.builtins = builtinsNs
  above : X.s₀.heap.objs.size ≤ X.env.locals
  inj : ∀ x y c, X.env.cells.lookup x = some c → X.env.cells.lookup y = some c → x = y
  has : ∀ x, (X.env.kindOf x = some .cell ∨ X.env.kindOf x = some .free) → ∃ c, X.env.cells.lookup x = some c
  cab : ∀ x c, X.fn x = true → X.env.cells.lookup x = some c → X.s₀.heap.objs.size ≤ c
  hd : X.calm = true → X.A.handled = none
  frames : X.A.frames = some X.stack
  stk : X.stack = X.outer ∨ (X.stack = X.env :: X.outer ∧ X.env.frame = some X.env.locals)
  exf : ∀ b ∈ X.ex, b ≠ X.env.locals ∧ ∀ x c, X.env.cells.lookup x = some c → c ≠ b
  bs : ∀ b o, X.base.get? b = some o → X.s₀.heap.get? b = some o ∧ X.H₀ b = none
  bsz : X.base.objs.size ≤ X.s₀.heap.objs.size
  noex : ∀ b o, X.base.get? b = some o → b ∉ X.ex
  exfs : ∀ b ∈ X.ex, b ∉ X.fs
  funs : X.s₀.heap.FunFrames X.base X.outer
  frf : ∀ b ∈ X.fs, X.H₀ b = none

structure Inv (X : Cx) (pins : List (Addr × Obj)) (σ : List (Option V)) (H : Hp) (s : Shared) : Prop where
  ok : X.Ok
  os : s.os = X.s₀.os
  bare : AllBare s.gens
  base : Un X.fs X.ex X.H₀ H X.s₀.heap s.heap
  loc : ∃ m, s.heap.Ns X.env.locals m ∧ ∀ (i : Nat) (x : Str) (v : V), X.N[i]? = some x → σ[i]? = some (some v) → Vis X.env.scope x → ∃ u, RelV v u ∧ Look X.env s.heap m x u
  cell : ∀ x c, X.env.cells.lookup x = some c → ∃ v, s.heap.IsCell c v
  free : H X.env.locals = none
  freeC : ∀ x c, X.env.cells.lookup x = some c → H c = none
  pin : ∀ p ∈ X.pn ++ pins, s.heap.get? p.1 = some p.2 ∧ H p.1 = none ∧ p.1 ≠ X.env.locals ∧ p.1 ∉ X.fs ∧ ∀ v, p.2.data ≠ .cell v
  hok : HOk X.prog X.w H s.heap
  len : σ.length = X.N.length

section
variable {X : Cx} {pins : List (Addr × Obj)} {σ : List (Option V)} {H H' : Hp} {s : Shared} {h' : Heap}

theorem Cx.Ok.nofr (ok : X.Ok) {b : Addr} {o : Obj} (e : X.base.get? b = some o) : b ∉ X.fs := fun hb => by
  have := (ok.funs.mem hb).1
  rw [e] at this; cases this
theorem Inv.bs (I : Inv X pins σ H s) : ∀ b o, X.base.get? b = some o → s.heap.get? b = some o ∧ H b = none := fun b o e =>
  ⟨I.base.keep b o (I.ok.bs b o e).1 (I.ok.bs b o e).2 (I.ok.nofr e) (I.ok.noex b o e), I.base.free b o (I.ok.bs b o e).1 (I.ok.bs b o e).2 (I.ok.noex b o e)⟩
theorem Inv.bk (I : Inv X pins σ H s) : ∀ b o, X.base.get? b = some o → s.heap.get? b = some o := fun b o e => (I.bs b o e).1
theorem Inv.mod (I : Inv X pins σ H s) : Mod X.K X.mg X.base := I.ok.mod
theorem Inv.kIn (I : Inv X pins σ H s) : X.K.In s.heap := I.ok.mod.kin.keeps I.bk
theorem Inv.lt (I : Inv X pins σ H s) : X.env.locals < s.heap.objs.size := let ⟨_, hn, _⟩ := I.loc; hn.lt
theorem Inv.sz (I : Inv X pins σ H s) : X.s₀.heap.objs.size ≤ s.heap.objs.size := Nat.le_trans I.ok.above (Nat.le_of_lt I.lt)
theorem Inv.nofs (I : Inv X pins σ H s) {a : Addr} (h : s.heap.objs.size ≤ a) : a ∉ X.fs := fun hb => by
  obtain ⟨_, o, ho, _⟩ := I.ok.funs.mem hb
  exact absurd (Nat.lt_of_lt_of_le (Heap.lt_size ho) (Nat.le_trans I.sz h)) (Nat.lt_irrefl _)
theorem Inv.cne (I : Inv X pins σ H s) : ∀ x c, X.env.cells.lookup x = some c → c ≠ X.env.locals := fun x c e z => by
  obtain ⟨v, o, ho, hd⟩ := I.cell x c e
  obtain ⟨m, ⟨o', es, ep, ho', hd', _⟩, _⟩ := I.loc
  rw [z, ho'] at ho; cases ho; rw [hd'] at hd; cases hd
theorem Inv.funs (I : Inv X pins σ H s) : s.heap.FunFrames X.base X.outer := by
  have all : ∀ (l : List Env), (∀ b ∈ frs l, b ∈ X.fs) → X.s₀.heap.FunFrames X.base l → s.heap.FunFrames X.base l := by
    intro l
    induction l with
    | nil => intro _ _; trivial
    | cons env r ih =>
      intro hs hl
      obtain ⟨hk, ⟨L, o, hf, hn, ho, hd⟩, hr⟩ := hl
      have hL : L ∈ X.fs := hs L (by unfold frs; rw [List.filterMap_cons, hf]; exact List.mem_cons_self)
      obtain ⟨sl, e⟩ := I.base.slot L o ho (I.ok.frf L hL) hL fun z => I.ok.exfs L z hL
      exact ⟨hk, ⟨L, _, hf, hn, e, hd⟩, ih (fun b hb => hs b (by unfold frs; rw [List.filterMap_cons, hf]; exact List.mem_cons_of_mem _ hb)) hr⟩
  exact all X.outer (fun _ hb => hb) I.ok.funs

/-- the frames that run, for a call -/
theorem Inv.stack (I : Inv X pins σ H s) : s.heap.FunFrames X.base X.stack := by
  rcases I.ok.stk with e | ⟨e, hf⟩
  · rw [e]; exact I.funs
  · rw [e]
    obtain ⟨m, hn, _⟩ := I.loc
    refine .cons (by rw [I.ok.kind]; decide) hf hn ?_ I.funs
    exact Heap.get?_none_of_le (Nat.le_trans I.ok.bsz I.ok.above)
theorem Inv.stkSub (I : Inv X pins σ H s) : ∀ b ∈ frs X.stack, b ∈ X.env.locals :: X.fs := fun b hb => by
  rcases I.ok.stk with e | ⟨e, hf⟩
  · rw [e] at hb; exact List.mem_cons_of_mem _ hb
  · rw [e] at hb
    unfold frs at hb
    rw [List.filterMap_cons, hf] at hb
    exact hb
theorem Inv.stkFree (I : Inv X pins σ H s) : ∀ b ∈ frs X.stack, H b = none := fun b hb => by
  rcases List.mem_cons.mp (I.stkSub b hb) with e | hb
  · rw [e]; exact I.free
  · obtain ⟨_, o, ho, _⟩ := I.ok.funs.mem hb
    exact I.base.free b o ho (I.ok.frf b hb) fun z => I.ok.exfs b z hb

/-- THE STEP: the untracked objects but the frame and the records at ch are kept (the callers' frames up to slots), the frame's map is kept, the new abstract heap is held -/
theorem Inv.step {g' : Array GenState} {t' : Nat} {d' : Drawn} {ch : List Addr} (I : Inv X pins σ H s)
    (hch : ∀ b ∈ ch, (b ∈ X.ex ∨ X.s₀.heap.objs.size ≤ b) ∧ b ≠ X.env.locals ∧ (∀ x c, X.env.cells.lookup x = some c → c ≠ b) ∧ ∀ p ∈ X.pn ++ pins, p.1 ≠ b)
    (keep : ∀ b o, b ≠ X.env.locals → b ∉ X.fs → b ∉ ch → s.heap.get? b = some o → H b = none → h'.get? b = some o)
    (slot : ∀ b o, b ≠ X.env.locals → b ∈ X.fs → b ∉ ch → s.heap.get? b = some o → H b = none → ∃ sl, h'.get? b = some { o with slots := sl }) (free : ∀ b o, b ∉ ch → s.heap.get? b = some o → H b = none → H' b = none)
    (there : ∀ b o, b ∉ ch → s.heap.get? b = some o → ∃ o', h'.get? b = some o')
    (tups : ∀ b xs, H b = some (.tup xs) → H' b = some (.tup xs)) (frzs : ∀ b o u, H b = some (.frz o u) → H' b = some (.frz o u)) (tbls : ∀ b ps, H b = some (.tbl ps) → ∃ more, H' b = some (.tbl (ps ++ more)))
    (ns : ∀ m, s.heap.Ns X.env.locals m → h'.Ns X.env.locals m) (hok : HOk X.prog X.w H' h') (hg : AllBare g') :
    Inv X pins σ H' { s with heap := h', gens := g', drawn := d', toks := t' } := by
  have neL : ∀ b o, X.s₀.heap.get? b = some o → b ≠ X.env.locals := fun b o e => Nat.ne_of_lt (Nat.lt_of_lt_of_le (Heap.lt_size e) I.ok.above)
  have neC : ∀ b o, X.s₀.heap.get? b = some o → b ∉ X.ex → b ∉ ch := fun b o e hx hb => by
    rcases (hch b hb).1 with z | z
    · exact hx z
    · exact absurd (Nat.lt_of_lt_of_le (Heap.lt_size e) z) (Nat.lt_irrefl _)
  have cellK : ∀ x c, X.env.cells.lookup x = some c → ∀ v, s.heap.IsCell c v → h'.IsCell c v := fun x c e v ⟨o, ho, hd⟩ => by
    have nch : c ∉ ch := fun z => (hch c z).2.2.1 x c e rfl
    by_cases hc : c ∈ X.fs
    · obtain ⟨sl, q⟩ := slot c o (I.cne x c e) hc nch ho (I.freeC x c e)
      exact ⟨_, q, hd⟩
    · exact ⟨o, keep c o (I.cne x c e) hc nch ho (I.freeC x c e), hd⟩
  refine ⟨I.ok, I.os, hg, ⟨fun b o e n hb hx => ?_, fun b o e n hb hx => ?_, fun b o e n hx => ?_, fun b o e hx => ?_, fun b xs e => tups b xs (I.base.tups b xs e), fun b o xs e => frzs b o xs (I.base.frzs b o xs e), fun b ps e => ?_⟩, ?_, fun x c e => ?_, ?_, fun x c e => ?_, fun p hp => ?_, hok, I.len⟩
  · exact keep b o (neL b o e) hb (neC b o e hx) (I.base.keep b o e n hb hx) (I.base.free b o e n hx)
  · obtain ⟨sl, e1⟩ := I.base.slot b o e n hb hx
    obtain ⟨sl', e2⟩ := slot b _ (neL b o e) hb (neC b o e hx) e1 (I.base.free b o e n hx)
    exact ⟨sl', e2⟩
  · obtain ⟨o', e1⟩ := I.base.there b o e hx
    exact free b o' (neC b o e hx) e1 (I.base.free b o e n hx)
  · obtain ⟨o', e1⟩ := I.base.there b o e hx
    exact there b o' (neC b o e hx) e1
  · obtain ⟨m1, e1⟩ := I.base.tbls b ps e
    obtain ⟨m2, e2⟩ := tbls b _ e1
    exact ⟨m1 ++ m2, by rw [e2, Array.append_assoc]⟩
  · obtain ⟨m, hn, hl⟩ := I.loc
    refine ⟨m, ns m hn, fun i x v e1 e2 e3 => ?_⟩
    obtain ⟨u, r, l⟩ := hl i x v e1 e2 e3
    refine ⟨u, r, ?_⟩
    rcases l with l | ⟨k, c, e, z⟩
    · exact .inl l
    · exact .inr ⟨k, c, e, cellK x c e _ z⟩
  · obtain ⟨v, z⟩ := I.cell x c e
    exact ⟨v, cellK x c e v z⟩
  · obtain ⟨m, ⟨o, _, _, ho, _⟩, _⟩ := I.loc
    exact free _ o (fun z => (hch _ z).2.1 rfl) ho I.free
  · obtain ⟨v, o, ho, hd⟩ := I.cell x c e
    exact free c o (fun z => (hch c z).2.2.1 x c e rfl) ho (I.freeC x c e)
  · obtain ⟨e, n, ne, nf, d⟩ := I.pin p hp
    have nch : p.1 ∉ ch := fun z => (hch p.1 z).2.2.2 p hp rfl
    exact ⟨keep p.1 p.2 ne nf nch e n, free p.1 p.2 nch e n, ne, nf, d⟩
/-- .. where the frame's own object is kept too -/
theorem Inv.un {t' : Nat} (I : Inv X pins σ H s) (u : Un X.fs [] H H' s.heap h') (hok : HOk X.prog X.w H' h') : Inv X pins σ H' { s with heap := h', toks := t' } := by
  obtain ⟨m, ⟨o, es, ep, ho, r⟩, _⟩ := id I.loc
  obtain ⟨sl, hL⟩ := u.any ho I.free (by simp)
  exact I.step (g' := s.gens) (d' := s.drawn) (ch := []) (fun _ z => nomatch z) (fun b o _ hb _ e n => u.keep b o e n hb (by simp)) (fun b o _ hb _ e n => u.slot b o e n hb (by simp)) (fun b o _ e n => u.free b o e n (by simp)) (fun b o _ e => u.there b o e (by simp)) u.tups u.frzs u.tbls (fun m' hm => by
    obtain ⟨o', es', ep', ho', r'⟩ := hm
    rw [ho] at ho'; cases ho'
    exact ⟨_, es', ep', hL, r'⟩) hok I.bare
/-- behind a call (or a comprehension's block): the slots of this frame may have changed too, the records at ch may have turned -/
theorem Inv.call {g' : Array GenState} {t' : Nat} {d' : Drawn} {ch : List Addr} (I : Inv X pins σ H s) (u : Un (frs X.stack) ch H H' s.heap h') (hok : HOk X.prog X.w H' h') (hg : AllBare g')
    (hch : ∀ b ∈ ch, (b ∈ X.ex ∨ X.s₀.heap.objs.size ≤ b) ∧ b ≠ X.env.locals ∧ (∀ x c, X.env.cells.lookup x = some c → c ≠ b) ∧ ∀ p ∈ X.pn ++ pins, p.1 ≠ b) :
    Inv X pins σ H' { s with heap := h', gens := g', drawn := d', toks := t' } := by
  obtain ⟨m, ⟨o, es, ep, ho, r⟩, _⟩ := id I.loc
  obtain ⟨sl, hL⟩ := u.any ho I.free fun z => (hch _ z).2.1 rfl
  exact I.step (ch := ch) hch (fun b o hL hb hc e n => u.keep b o e n (fun z => (List.mem_cons.mp (I.stkSub b z)).elim hL hb) hc) (fun b o _ _ hc e n => u.any e n hc) (fun b o hc e n => u.free b o e n hc) (fun b o hc e => u.there b o e hc) u.tups u.frzs u.tbls (fun m' hm => by
    obtain ⟨o', es', ep', ho', r'⟩ := hm
    rw [ho] at ho'; cases ho'
    exact ⟨_, es', ep', hL, r'⟩) hok hg
/-- an untracked record of ours (an iterator) has turned -/
theorem Inv.turned {t' : Nat} {it : Addr} (I : Inv X pins σ H s) (k : ∀ b o, b ≠ it → s.heap.get? b = some o → h'.get? b = some o) (hn : H it = none) (hL : it ≠ X.env.locals)
    (h1 : it ∈ X.ex ∨ X.s₀.heap.objs.size ≤ it) (h2 : ∀ x c, X.env.cells.lookup x = some c → c ≠ it) (h3 : ∀ p ∈ X.pn ++ pins, p.1 ≠ it) : Inv X pins σ H { s with heap := h', toks := t' } := by
  have nit : ∀ b u, H b = some u → b ≠ it := fun b u e z => by rw [z, hn] at e; cases e
  refine I.step (g' := s.gens) (d' := s.drawn) (ch := [it]) (fun b hb => ?_) (fun b o _ _ hc e _ => k b o (fun z => hc (by simp [z])) e) (fun b o _ _ hc e _ => ⟨o.slots, k b o (fun z => hc (by simp [z])) e⟩) (fun _ _ _ _ n => n)
    (fun b o hc e => ⟨o, k b o (fun z => hc (by simp [z])) e⟩) (fun _ _ e => e) (fun _ _ _ e => e) (fun b ps e => ⟨#[], by rw [e]; simp⟩) (fun m hm => ?_) (fun b u e => ?_) I.bare
  · have e : b = it := by simpa using hb
    subst e
    exact ⟨h1, hL, h2, h3⟩
  · obtain ⟨o, es, ep, ho, r⟩ := hm
    exact ⟨o, es, ep, k _ o (Ne.symm hL) ho, r⟩
  · refine (I.hok b u e).stay (fun c v hc q => k c v ?_ q) (fun _ q => q) fun _ _ q => q
    rcases hc with z | z
    · rw [z]; exact nit b u e
    · exact nit c _ z
theorem Inv.tok (I : Inv X pins σ H s) (t : Nat) : Inv X pins σ H { s with toks := t } := I.un (h' := s.heap) (t' := t) Un.refl I.hok
/-- all objects kept -/
theorem Inv.kept {t' : Nat} (I : Inv X pins σ H s) (k : ∀ b u, s.heap.get? b = some u → h'.get? b = some u) : Inv X pins σ H { s with heap := h', toks := t' } := I.un (Un.kept k) (I.hok.kept k)
/-- a new object laid and tracked -/
theorem Inv.laid {a : Addr} {o : HO} {t' : Nat} (I : Inv X pins σ H s) (k : ∀ b u, s.heap.get? b = some u → h'.get? b = some u) (hp : s.heap.objs.size ≤ a) (new : ObjOk X.prog X.w (upd H a o) h' a o) :
    Inv X pins σ (upd H a o) { s with heap := h', toks := t' } := I.un (Un.laid k hp (I.hok.fresh hp)) (I.hok.laid k hp new)
/-- an object written -/
theorem Inv.write {x e : Addr} {o : HO} {t' : Nat} (I : Inv X pins σ H s) (mu : Mut (H x)) (he : e = x ∨ H e = some (.own x)) (k : ∀ b u, b ≠ e → s.heap.get? b = some u → h'.get? b = some u) (heo : ∃ u, h'.get? e = some u)
    (new : ObjOk X.prog X.w (upd H x o) h' x o) : Inv X pins σ (upd H x o) { s with heap := h', toks := t' } := I.un (Un.write mu he k heo) (I.hok.write mu he k heo new)
theorem Inv.pins_of {pins' : List (Addr × Obj)} (I : Inv X pins σ H s) (h : ∀ p ∈ pins', s.heap.get? p.1 = some p.2 ∧ H p.1 = none ∧ p.1 ≠ X.env.locals ∧ p.1 ∉ X.fs ∧ ∀ v, p.2.data ≠ .cell v) : Inv X pins' σ H s :=
  ⟨I.ok, I.os, I.bare, I.base, I.loc, I.cell, I.free, I.freeC, fun p hp => (List.mem_append.mp hp).elim (fun z => I.pin p (List.mem_append_left _ z)) (h p), I.hok, I.len⟩

theorem nodup_ix {N : List Str} (hN : N.Nodup) {i j : Nat} {x : Str} (a : N[i]? = some x) (b : N[j]? = some x) : i = j := by
  obtain ⟨h1, e1⟩ := List.getElem?_eq_some_iff.mp a
  obtain ⟨h2, e2⟩ := List.getElem?_eq_some_iff.mp b
  exact (List.getElem_inj hN).mp (e1.trans e2.symm)

/-- a name is stored; what changed -/
theorem store_ok2 {M : Model} {A : Around} {E : Value → Shared → Prop} {i : Nat} {x : Str} {v : V} {u : Value} {Q : Unit → Shared → Prop} (I : Inv X pins σ H s) (hN : X.N.Nodup) (hi : X.N[i]? = some x) (hx : Loc X.env.scope x) (r : RelV v u)
    (h : ∀ s', Inv X pins (σ.set i (some v)) H s' → (∃ a, Heap.SameBut a s.heap s'.heap ∧ (a = X.env.locals ∨ X.env.cells.lookup x = some a)) → Q () s') (hf : X.fn x = true ∨ X.env.scope.names.lookup x = some .local := by first | exact .inl rfl | exact .inr rfl | assumption) : wpAny M A (storeName X.env x u) Q E s := by
  obtain ⟨m, hn, hl⟩ := id I.loc
  have hcls : (X.env.scope.kind == .class || (X.env.scope.kind == .module && X.env.locals != X.env.globals)) = false := by rw [I.ok.kind]; rfl
  have hiσ : i < σ.length := by rw [I.len]; exact (List.getElem?_eq_some_iff.mp hi).1
  have cne := I.cne
  have tracked : ∀ {a : Addr} {h' : Heap}, (∃ o, s.heap.get? a = some o ∧ H a = none) → Heap.SameBut a s.heap h' → HOk X.prog X.w H h' := fun {a h'} ha hs b ob e => by
    obtain ⟨_, _, hfree⟩ := ha
    refine (I.hok b ob e).stay (fun c w' hc q => (hs.2 c ?_).trans q) (fun _ q => q) fun _ _ q => q
    rintro rfl
    rcases hc with rfl | hc
    · rw [hfree] at e; cases e
    · rw [hfree] at hc; cases hc
  rcases hx with hk | hk
  · refine wpAny_storeName_local hk hn (fun h' hn' hs => ?_) hcls
    obtain ⟨oL, _, _, hoL, _⟩ := id hn
    refine h _ ⟨I.ok, I.os, I.bare, ⟨fun b o e n hb hx => ?_, fun b o e n hb hx => ?_, I.base.free, fun b o e hx => ?_, I.base.tups, I.base.frzs, I.base.tbls⟩, ⟨_, hn', fun j y v' e1 e2 e3 => ?_⟩, fun y c e => ?_, I.free, I.freeC, fun p hp => ?_, tracked ⟨oL, hoL, I.free⟩ hs, by simpa using I.len⟩ ⟨_, hs, .inl rfl⟩
    · exact (hs.2 b (Nat.ne_of_lt (Nat.lt_of_lt_of_le (Heap.lt_size e) I.ok.above))).trans (I.base.keep b o e n hb hx)
    · obtain ⟨sl, e1⟩ := I.base.slot b o e n hb hx
      exact ⟨sl, (hs.2 b (Nat.ne_of_lt (Nat.lt_of_lt_of_le (Heap.lt_size e) I.ok.above))).trans e1⟩
    · obtain ⟨o', e1⟩ := I.base.there b o e hx
      exact ⟨o', (hs.2 b (Nat.ne_of_lt (Nat.lt_of_lt_of_le (Heap.lt_size e) I.ok.above))).trans e1⟩
    · by_cases hj : j = i
      · subst hj
        rw [hi] at e1; cases e1
        rw [List.getElem?_set_self hiσ] at e2
        cases e2
        exact ⟨u, r, .inl ⟨hk, by simp⟩⟩
      · rw [List.getElem?_set_ne (Ne.symm hj)] at e2
        obtain ⟨u', r', q⟩ := hl j y v' e1 e2 e3
        refine ⟨u', r', ?_⟩
        rcases q with ⟨k, e⟩ | ⟨k, c, e, z⟩
        · refine .inl ⟨k, ?_⟩
          have : y ≠ x := fun e => hj (nodup_ix hN e1 (e ▸ hi))
          simp [this, e]
        · exact .inr ⟨k, c, e, z.sameBut hs (cne y c e)⟩
    · obtain ⟨w', z⟩ := I.cell y c e
      exact ⟨w', z.sameBut hs (cne y c e)⟩
    · obtain ⟨e, n, ne, nf, d⟩ := I.pin p hp
      exact ⟨(hs.2 p.1 ne).trans e, n, ne, nf, d⟩
  · have hfn : X.fn x = true := by
      rcases hf with z | z
      · exact z
      · rw [z] at hk; cases hk
    obtain ⟨c, hc⟩ := I.ok.has x (.inl hk)
    obtain ⟨w', z⟩ := I.cell x c hc
    refine wpAny_storeName_cell I.ok.kind hk hc z (fun h' hc' hs => ?_)
    obtain ⟨oc, hoc, hocd⟩ := id z
    refine h { s with heap := h' } ⟨I.ok, I.os, I.bare, ⟨fun b o e n hb hx => ?_, fun b o e n hb hx => ?_, I.base.free, fun b o e hx => ?_, I.base.tups, I.base.frzs, I.base.tbls⟩, ⟨m, hn.sameBut hs (Ne.symm (cne x c hc)), fun j y v' e1 e2 e3 => ?_⟩, fun y c' e => ?_, I.free, I.freeC, fun p hp => ?_, tracked ⟨oc, hoc, I.freeC x c hc⟩ hs, by simpa using I.len⟩ ⟨c, hs, .inr hc⟩
    · exact (hs.2 b (Nat.ne_of_lt (Nat.lt_of_lt_of_le (Heap.lt_size e) (I.ok.cab x c hfn hc)))).trans (I.base.keep b o e n hb hx)
    · obtain ⟨sl, e1⟩ := I.base.slot b o e n hb hx
      exact ⟨sl, (hs.2 b (Nat.ne_of_lt (Nat.lt_of_lt_of_le (Heap.lt_size e) (I.ok.cab x c hfn hc)))).trans e1⟩
    · obtain ⟨o', e1⟩ := I.base.there b o e hx
      exact ⟨o', (hs.2 b (Nat.ne_of_lt (Nat.lt_of_lt_of_le (Heap.lt_size e) (I.ok.cab x c hfn hc)))).trans e1⟩
    · by_cases hj : j = i
      · subst hj
        rw [hi] at e1; cases e1
        rw [List.getElem?_set_self hiσ] at e2
        cases e2
        exact ⟨u, r, .inr ⟨.inl hk, c, hc, hc'⟩⟩
      · rw [List.getElem?_set_ne (Ne.symm hj)] at e2
        obtain ⟨u', r', q⟩ := hl j y v' e1 e2 e3
        refine ⟨u', r', ?_⟩
        rcases q with q | ⟨k, c', e, z'⟩
        · exact .inl q
        · refine .inr ⟨k, c', e, z'.sameBut hs ?_⟩
          rintro rfl
          exact hj (nodup_ix hN e1 (I.ok.inj _ _ _ e hc ▸ hi))
    · by_cases hcc : c' = c
      · subst hcc; exact ⟨_, hc'⟩
      · obtain ⟨w2, z2⟩ := I.cell y c' e
        exact ⟨w2, z2.sameBut hs hcc⟩
    · obtain ⟨e, n, ne, nf, d⟩ := I.pin p hp
      refine ⟨(hs.2 p.1 ?_).trans e, n, ne, nf, d⟩
      intro q
      rw [q, hoc] at e
      have q' : oc = p.2 := Option.some.inj e
      exact d w' (by rw [← q']; exact hocd)
theorem store_ok {M : Model} {A : Around} {E : Value → Shared → Prop} {i : Nat} {x : Str} {v : V} {u : Value} {Q : Unit → Shared → Prop} (I : Inv X pins σ H s) (hN : X.N.Nodup) (hi : X.N[i]? = some x) (hx : Loc X.env.scope x) (r : RelV v u)
    (h : ∀ s', Inv X pins (σ.set i (some v)) H s' → Q () s') (hf : X.fn x = true ∨ X.env.scope.names.lookup x = some .local := by first | exact .inl rfl | exact .inr rfl | assumption) : wpAny M A (storeName X.env x u) Q E s :=
  store_ok2 I hN hi hx r (fun s' I' _ => h s' I') hf
/-- behind a call or a block, the state as it is -/
theorem Inv.call' {s' : Shared} {ch : List Addr} (I : Inv X pins σ H s) (ho : s'.os = s.os) (u : Un (frs X.stack) ch H H' s.heap s'.heap) (hok : HOk X.prog X.w H' s'.heap) (hg : AllBare s'.gens)
    (hch : ∀ b ∈ ch, (b ∈ X.ex ∨ X.s₀.heap.objs.size ≤ b) ∧ b ≠ X.env.locals ∧ (∀ x c, X.env.cells.lookup x = some c → c ≠ b) ∧ ∀ p ∈ X.pn ++ pins, p.1 ≠ b) : Inv X pins σ H' s' := by
  obtain ⟨h', g', d', t', o'⟩ := s'
  have e : o' = s.os := ho
  subst e
  exact I.call (g' := g') (t' := t') (d' := d') u hok hg hch
end

/-- an exception: its class, its own dict's address (where it has one), the abstract heap behind it -/
abbrev XK := Value → Option Addr → Hp → Prop
abbrev St := List (Option V)
abbrev VK := V → Hp → Prop
/-- an expression's reading; a test's; an argument list's -/
abbrev TE := St → Hp → VK → Prop
abbrev TT := St → Hp → (Bool → Hp → Prop) → Prop
abbrev TA := St → Hp → (List V → Hp → Prop) → Prop
/-- what is wanted behind a statement -/
structure Ends where
  nx : St → Hp → Prop
  rt : VK
  bk : St → Hp → Prop := fun _ _ => False
  ct : St → Hp → Prop := fun _ _ => False
abbrev TS := Ends → St → Hp → Prop

def EP (X : Cx) (pins : List (Addr × Obj)) (σ : St) (Q : VK) (u : Value) (s' : Shared) : Prop := ∃ v H', Inv X pins σ H' s' ∧ RelV v u ∧ Q v H'
def TP (X : Cx) (pins : List (Addr × Obj)) (σ : St) (Q : Bool → Hp → Prop) (b : Bool) (s' : Shared) : Prop := ∃ H', Inv X pins σ H' s' ∧ Q b H'
def AP (X : Cx) (pins : List (Addr × Obj)) (σ : St) (Q : List V → Hp → Prop) (us : List Value) (s' : Shared) : Prop := ∃ vs H', Inv X pins σ H' s' ∧ Vals vs us ∧ Q vs H'
def SP (X : Cx) (pins : List (Addr × Obj)) (D : Ends) (f : Flow) (s' : Shared) : Prop :=
  match f with
  | .next => ∃ σ' H', Inv X pins σ' H' s' ∧ D.nx σ' H'
  | .brk => ∃ σ' H', Inv X pins σ' H' s' ∧ D.bk σ' H'
  | .cont => ∃ σ' H', Inv X pins σ' H' s' ∧ D.ct σ' H'
  | .ret u => ∃ v σ' H', Inv X pins σ' H' s' ∧ RelV v u ∧ D.rt v H'

def PE (X : Cx) (e : Expr) (t : TE) : Prop :=
  ∀ (pins : List (Addr × Obj)) (s : Shared) (σ : St) (H : Hp) (Q : VK), Inv X pins σ H s → t σ H Q → wpAny (model X.prog X.w) X.A (eval e X.env) (EP X pins σ Q) X.xe s
def PT (X : Cx) (e : Expr) (t : TT) : Prop :=
  ∀ (pins : List (Addr × Obj)) (s : Shared) (σ : St) (H : Hp) (Q : Bool → Hp → Prop), Inv X pins σ H s → t σ H Q → wpAny (model X.prog X.w) X.A (isTrue e X.env (eval e X.env)) (TP X pins σ Q) X.xe s
/-- a test whatever its 'whole' is (and, or) -/
def PW (X : Cx) (e : Expr) (t : TT) : Prop :=
  ∀ (whole : Sem Value) (pins : List (Addr × Obj)) (s : Shared) (σ : St) (H : Hp) (Q : Bool → Hp → Prop), Inv X pins σ H s → t σ H Q → wpAny (model X.prog X.w) X.A (isTrue e X.env whole) (TP X pins σ Q) X.xe s
theorem PW.pt {X : Cx} {e : Expr} {t : TT} (h : PW X e t) : PT X e t := h _
/-- an argument list (no star), from the left -/
def PA (X : Cx) (es : List Expr) (t : TA) : Prop :=
  ∀ (pos : Pos) (pins : List (Addr × Obj)) (s : Shared) (σ : St) (H : Hp) (Q : List V → Hp → Prop), Inv X pins σ H s → t σ H Q → wpAny (model X.prog X.w) X.A (spliced (backTo pos (starEach es X.env))) (AP X pins σ Q) X.xe s
def PS (X : Cx) (st : Stmt) (t : TS) : Prop :=
  ∀ (pins : List (Addr × Obj)) (s : Shared) (σ : St) (H : Hp) (D : Ends), Inv X pins σ H s → t D σ H → wpAny (model X.prog X.w) X.A (exec st X.env) (SP X pins D) X.xe s
def PSs (X : Cx) (st : List Stmt) (t : TS) : Prop :=
  ∀ (pins : List (Addr × Obj)) (s : Shared) (σ : St) (H : Hp) (D : Ends), Inv X pins σ H s → t D σ H → wpAny (model X.prog X.w) X.A (execs st X.env) (SP X pins D) X.xe s
/-- weaken the end -/
theorem thn {α : Type} {t : Sem α} {Q Q' : α → Shared → Prop} {M : Model} {A : Around} {E : Value → Shared → Prop} {s : Shared} (h : wpAny M A t Q E s) (hQ : ∀ a s, Q a s → Q' a s) : wpAny M A t Q' E s := wpAny_mono h hQ fun _ _ x => x
end L2

namespace L2
open PySem PySem.Spec PyProof.Rows
section
variable {X : Cx}

def tVar (i : Nat) : TE := fun σ H Q => ∃ v, σ[i]? = some (some v) ∧ Q v H
def tC (v : V) : TE := fun _ H Q => Q v H
theorem pe_var {i : Nat} {x : Str} {pos : Pos} (hN : X.N[i]? = some x) (hv : Vis X.env.scope x) (hd : (x == ("__debug__" : Str)) = false := by decide) (hcd : (x == ("__classdict__" : Str)) = false := by decide) : PE X (.Name x pos) (tVar i) := by
  intro pins s σ H Q I h
  obtain ⟨v, e, h⟩ := h
  obtain ⟨m, hn, hl⟩ := I.loc
  obtain ⟨u, r, l⟩ := hl i x v hN e hv
  have fin : EP X pins σ Q u s := ⟨v, H, I, r, h⟩
  rcases l with ⟨hk, hm⟩ | ⟨hk, c, hc, hcell⟩
  · exact wpAny_Name (wpAny_loadName_local I.ok.kind hk hn hm fin) hd
  · rcases hk with hk | hk
    · exact wpAny_Name (wpAny_loadName_cell I.ok.kind hk hc hcell fin) hd
    · exact wpAny_Name (wpAny_loadName_free I.ok.kind hk hc hcell fin hcd) hd
theorem pe_int {i j pos} : PE X (.Constant (.int i) j pos) (tC (.int i)) := fun _ _ _ H _ I h => wpAny_Constant_int ⟨.int i, H, I.tok _, ⟨_, rfl⟩, h⟩
theorem pe_bl {b j pos} : PE X (.Constant (.bool b) j pos) (tC (.bl b)) := fun _ _ _ H _ I h => Constant_bool ⟨.bl b, H, I, rfl, h⟩
theorem pe_str {x j pos} : PE X (.Constant (.str x) j pos) (tC (.str x)) := fun _ _ _ H _ I h => Calls.Constant_str ⟨.str x, H, I.tok _, ⟨_, rfl⟩, h⟩

/-- a global name of the def -/
def Gl (X : Cx) (x : Str) : Prop := X.env.kindOf x = some .globalImplicit
theorem ld_glob {E : Value → Shared → Prop} {pins : List (Addr × Obj)} {s : Shared} {σ : St} {H : Hp} {x : Str} {u : Value} {pos : Pos} {Q : Value → Shared → Prop} (I : Inv X pins σ H s) (hg : Gl X x) (hm : X.mg x = some u) (h : Q u s)
    (hd : (x == ("__debug__" : Str)) = false := by decide) : wpAny (model X.prog X.w) X.A (eval (.Name x pos) X.env) Q E s :=
  Calls.Name_function_global I.ok.kind hg (Calls.loadGlobal_global (by rw [I.ok.glob]; exact I.mod.glob.keeps I.bk) hm h) hd
theorem ld_blt {E : Value → Shared → Prop} {pins : List (Addr × Obj)} {s : Shared} {σ : St} {H : Hp} {x : Str} {u : Value} {pos : Pos} {Q : Value → Shared → Prop} (I : Inv X pins σ H s) (hg : Gl X x) (hm : X.mg x = none) (hv : bootBuiltins x = some u) (h : Q u s)
    (hn : x ≠ "__name__" := by decide) (hd : (x == ("__debug__" : Str)) = false := by decide) : wpAny (model X.prog X.w) X.A (eval (.Name x pos) X.env) Q E s := by
  obtain ⟨mb, h1, h2⟩ := I.mod.blt
  exact Calls.Name_function_global I.ok.kind hg (Calls.loadGlobal_builtin (by rw [I.ok.glob]; exact I.mod.glob.keeps I.bk) hm (by rw [I.ok.blt]; exact h1.keeps I.bk) ((h2 x hn).trans hv) h) hd
/-- a module's constant, a class, a function, as a value -/
theorem pe_glob {x : Str} {v : V} {u : Value} {pos : Pos} (hg : Gl X x) (hm : X.mg x = some u) (r : RelV v u) (hd : (x == ("__debug__" : Str)) = false := by decide) : PE X (.Name x pos) (tC v) :=
  fun _ _ _ H _ I h => ld_glob I hg hm ⟨v, H, I, r, h⟩ hd
theorem pe_bltn {x : Str} {v : V} {u : Value} {pos : Pos} (hg : Gl X x) (hm : X.mg x = none) (hv : bootBuiltins x = some u) (r : RelV v u) (hn : x ≠ "__name__" := by decide) (hd : (x == ("__debug__" : Str)) = false := by decide) : PE X (.Name x pos) (tC v) :=
  fun _ _ _ H _ I h => ld_blt I hg hm hv ⟨v, H, I, r, h⟩ hn hd

variable {a b : Expr} {ta tb : TE} {pos : Pos}
def PC (X : Cx) (op : CmpOp) (a b : Expr) (t : TE) : Prop :=
  ∀ (pins : List (Addr × Obj)) (s : Shared) (σ : St) (H : Hp) (Q : VK), Inv X pins σ H s → t σ H Q →
    wpAny (model X.prog X.w) X.A (eval a X.env) (fun v s₁ => wpAny (model X.prog X.w) X.A (eval b X.env) (fun u s₂ => wpAny (model X.prog X.w) X.A (compareOp op v u) (EP X pins σ Q) X.xe s₂) X.xe s₁) X.xe s
/-- a comparison as a value, as a test -/
def tB (t : TE) : TT := fun σ H Q => t σ H fun x H1 => ∃ c, x = .bl c ∧ Q c H1
theorem pt_cmp {op : CmpOp} {t : TE} (h : PC X op a b t) (h1 : behindInMarks op b = false := by first | exact nobehind _ (by decide) (by decide) | rfl) : PT X (.Compare a [op] [b] pos) (tB t) := by
  intro pins s σ H Q I hw
  refine wpAny_isTrue_Compare1 (thn (h pins s σ H _ I hw) fun v s1 h1 => thn h1 fun u s2 h2 => thn h2 fun c s3 ⟨x, H1, I1, r1, q1⟩ => ?_) h1
  obtain ⟨d, rfl, q⟩ := q1
  cases r1
  exact wpAny_truthy_bool ⟨H1, I1, q⟩
/-- an expression whose value is a bool, as a test -/
theorem pt_val {e : Expr} {t : TE} (h : PE X e t) (he : ∀ whole, isTrue e X.env whole = (do let v ← whole; standAt e.pos; holding [v] (truthy v)) := by intro _; rfl) : PT X e (tB t) := by
  intro pins s σ H Q I hw
  refine isTrue_plain (thn (h pins s σ H _ I hw) fun v s1 ⟨x, H1, I1, r1, q1⟩ => ?_) (he _)
  obtain ⟨d, rfl, q⟩ := q1
  cases r1
  exact wpAny_truthy_bool ⟨H1, I1, q⟩

variable {tA tB' : TT} {rest : List Expr}
def tOr (t u : TT) : TT := fun σ H Q => t σ H fun c H1 => if c = true then Q true H1 else u σ H1 Q
def tNot (t : TT) : TT := fun σ H Q => t σ H fun c H1 => Q (!c) H1
theorem pw_or1 (ha : PT X a tA) : PW X (.BoolOp .Or [a] pos) tA := by
  intro wh pins s σ H Q I h
  refine isTrue_or (thn (ha pins s σ H Q I h) fun c s1 e => ?_)
  cases c with
  | false => exact isTrue_or_nil e
  | true => exact e
theorem pw_or (ha : PT X a tA) (hb : PW X (.BoolOp .Or (b :: rest) pos) tB') : PW X (.BoolOp .Or (a :: b :: rest) pos) (tOr tA tB') := by
  intro wh pins s σ H Q I h
  refine isTrue_or (thn (ha pins s σ H _ I h) fun c s1 ⟨H1, I1, q1⟩ => ?_)
  cases c with
  | true => exact ⟨H1, I1, q1⟩
  | false => exact hb wh pins s1 σ H1 Q I1 q1
theorem pt_not (ha : PT X a tA) : PT X (.UnaryOp .Not a pos) (tNot tA) := by
  intro pins s σ H Q I h
  exact isTrue_not (ha pins s σ H (fun c H1 => Q (!c) H1) I h)
/-- .. as values (bools) -/
def tAndV (ta tb : TE) : TE := fun σ H Q => ta σ H fun x H1 => ∃ c, x = .bl c ∧ if c = true then tb σ H1 Q else Q (.bl false) H1
def tNotV (ta : TE) : TE := fun σ H Q => ta σ H fun x H1 => ∃ c, x = .bl c ∧ Q (.bl (!c)) H1
theorem pe_one {op} {t : TE} (h : PE X a t) : PE X (.BoolOp op [a] pos) t := fun pins s σ H Q I hw => BoolOp_one (h pins s σ H Q I hw)
theorem pe_and (ha : PE X a ta) (hb : PE X (.BoolOp .And (b :: rest) pos) tb) : PE X (.BoolOp .And (a :: b :: rest) pos) (tAndV ta tb) := by
  intro pins s σ H Q I h
  refine BoolOp_and (thn (ha pins s σ H _ I h) fun v s1 ⟨x, H1, I1, r1, q1⟩ => ?_)
  obtain ⟨c, rfl, q1⟩ := q1
  cases r1
  refine wpAny_truthy_bool ?_
  cases c with
  | true => exact hb pins s1 σ H1 Q I1 q1
  | false => exact ⟨.bl false, H1, I1, rfl, q1⟩
theorem pe_not (ha : PE X a ta) : PE X (.UnaryOp .Not a pos) (tNotV ta) := by
  intro pins s σ H Q I h
  refine UnaryOp_ (thn (ha pins s σ H _ I h) fun v s1 ⟨x, H1, I1, r1, q1⟩ => ?_)
  obtain ⟨c, rfl, q1⟩ := q1
  cases r1
  exact not_of (wpAny_truthy_bool ⟨.bl (!c), H1, I1, rfl, q1⟩)
end
end L2

namespace L2
open PySem PySem.Spec PyProof.Rows

def SqL (K : PySem.W.Frag) (H : Hp) (a : Addr) (xs : List V) : Prop :=
  Rd H a (.lst xs) ∨
    ∃ (o : Obj) (its : Array Value) (n : Nat), K.lookup a = some o ∧ o.cls = .type "list" ∧ o.dict = none ∧ o.data = .seq its n ∧ its.size ≤ sizeLine ∧ Vals xs its.toList
def SqT (K : PySem.W.Frag) (H : Hp) (a : Addr) (xs : List V) : Prop :=
  Rd H a (.tup xs) ∨
    ∃ (o : Obj) (its : Array Value) (n : Nat), K.lookup a = some o ∧ o.cls = .type "tuple" ∧ o.data = .seq its n ∧ its.size ≤ sizeLine ∧ Vals xs its.toList
def absV : Value → Option V
  | .none => some .non
  | .bool b => some (.bl b)
  | .int i _ => some (.int i)
  | .str x _ => some (.str x)
  | .bytes b _ => some (.byt b)
  | .float b _ => some (.flt b)
  | .ref a => some (.ref a)
  | .type n => some (.ty n)
  | _ => none
theorem RelV.abs {x : V} {u : Value} (r : RelV x u) : absV u = some x := by
  cases x with
  | non => cases r; rfl
  | bl _ => cases r; rfl
  | int _ => obtain ⟨t, rfl⟩ := r; rfl
  | str _ => obtain ⟨t, rfl⟩ := r; rfl
  | byt _ => obtain ⟨t, rfl⟩ := r; rfl
  | flt _ => obtain ⟨t, rfl⟩ := r; rfl
  | ref _ => cases r; rfl
  | ty _ => cases r; rfl
theorem RelV.inj {x y : V} {u : Value} (r : RelV x u) (q : RelV y u) : x = y := Option.some.inj (r.abs.symm.trans q.abs)
theorem Vals.inj : ∀ {xs ys : List V} {us : List Value}, Vals xs us → Vals ys us → xs = ys
  | _, _, _, .nil, .nil => rfl
  | _, _, _, .cons r t, .cons r' t' => by rw [r.inj r', Vals.inj t t']
section
variable {X : Cx} {pins : List (Addr × Obj)} {σ : St} {H : Hp} {s : Shared} {a : Addr} {xs ys : List V}
theorem SqL.of {K : PySem.W.Frag} (h : H a = some (.lst xs)) : SqL K H a xs := .inl (.inl h)
theorem SqT.of {K : PySem.W.Frag} (h : H a = some (.tup xs)) : SqT K H a xs := .inl (.inl h)
theorem Inv.list (I : Inv X pins σ H s) (h : SqL X.K H a xs) : ∃ its : List Value, Vals xs its ∧ PlainL s.heap a its.toArray ∧ xs.length ≤ sizeLine := by
  rcases h with h | ⟨o, its, n, hk, hc, hd, hs, hz, r⟩
  · obtain ⟨z, its, n, r, e⟩ := h.ok I.hok
    exact ⟨its, r, ⟨_, n, e, rfl, rfl, rfl⟩, z⟩
  · refine ⟨its.toList, r, ⟨o, n, I.kIn a o hk, hc, hd, by simpa using hs⟩, ?_⟩
    have e := r.length
    simp only [Array.length_toList] at e
    omega
theorem Inv.tuple (I : Inv X pins σ H s) (h : SqT X.K H a xs) : ∃ its : List Value, Vals xs its ∧ IsTup s.heap a its.toArray ∧ xs.length ≤ sizeLine := by
  rcases h with h | ⟨o, its, n, hk, hc, hs, hz, r⟩
  · obtain ⟨z, its, r, p⟩ := h.ok I.hok
    exact ⟨its, r, p, z.1⟩
  · refine ⟨its.toList, r, ⟨o, I.kIn a o hk, hc, n, by simpa using hs⟩, ?_⟩
    have e := r.length
    simp only [Array.length_toList] at e
    omega
theorem Inv.list_inj (I : Inv X pins σ H s) (h : SqL X.K H a xs) (h' : SqL X.K H a ys) : xs = ys := by
  obtain ⟨its, r, ⟨o, n, e, _, _, d⟩, _⟩ := I.list h
  obtain ⟨its', r', ⟨o', n', e', _, _, d'⟩, _⟩ := I.list h'
  rw [e] at e'; cases e'
  rw [d] at d'
  injection d' with d1 _
  have : its = its' := by simpa using congrArg Array.toList d1
  subst this
  exact r.inj r'
theorem Inv.tuple_inj (I : Inv X pins σ H s) (h : SqT X.K H a xs) (h' : SqT X.K H a ys) : xs = ys := by
  obtain ⟨its, r, ⟨o, e, _, n, d⟩, _⟩ := I.tuple h
  obtain ⟨its', r', ⟨o', e', _, n', d'⟩, _⟩ := I.tuple h'
  rw [e] at e'; cases e'
  rw [d] at d'
  injection d' with d1 _
  have : its = its' := by simpa using congrArg Array.toList d1
  subst this
  exact r.inj r'
end

abbrev Cx.wish (X : Cx) (E : Value → Shared → Prop) : Cx := { X with xe := E }
/-- no exception leaves -/
abbrev Cx.nox (X : Cx) : Cx := X.wish fun _ _ => False
theorem Cx.Ok.wish {X : Cx} (ok : X.Ok) (E : Value → Shared → Prop) : (X.wish E).Ok :=
  ⟨ok.mod, ok.kind, ok.glob, ok.blt, ok.above, ok.inj, ok.has, ok.cab, ok.hd, ok.frames, ok.stk, ok.exf, ok.bs, ok.bsz, ok.noex, ok.exfs, ok.funs, ok.frf⟩
theorem Cx.Ok.unwish {X : Cx} {E : Value → Shared → Prop} (ok : (X.wish E).Ok) : X.Ok :=
  ⟨ok.mod, ok.kind, ok.glob, ok.blt, ok.above, ok.inj, ok.has, ok.cab, ok.hd, ok.frames, ok.stk, ok.exf, ok.bs, ok.bsz, ok.noex, ok.exfs, ok.funs, ok.frf⟩
section
variable {X : Cx} {pins : List (Addr × Obj)} {σ : St} {H : Hp} {s : Shared} {E : Value → Shared → Prop}
theorem Inv.wish (I : Inv X pins σ H s) (E : Value → Shared → Prop) : Inv (X.wish E) pins σ H s := ⟨I.ok.wish E, I.os, I.bare, I.base, I.loc, I.cell, I.free, I.freeC, I.pin, I.hok, I.len⟩
theorem Inv.unwish (I : Inv (X.wish E) pins σ H s) : Inv X pins σ H s := ⟨I.ok.unwish, I.os, I.bare, I.base, I.loc, I.cell, I.free, I.freeC, I.pin, I.hok, I.len⟩
theorem SP.unwish {D : Ends} {f : Flow} {s' : Shared} (h : SP (X.wish E) pins D f s') : SP X pins D f s' := by
  cases f with
  | next => obtain ⟨σ', H', I, q⟩ := h; exact ⟨σ', H', I.unwish, q⟩
  | brk => obtain ⟨σ', H', I, q⟩ := h; exact ⟨σ', H', I.unwish, q⟩
  | cont => obtain ⟨σ', H', I, q⟩ := h; exact ⟨σ', H', I.unwish, q⟩
  | ret u => obtain ⟨v, σ', H', I, r, q⟩ := h; exact ⟨v, σ', H', I.unwish, r, q⟩
theorem PSs.nox {st : List Stmt} {t : TS} (h : PSs X.nox st t) : PSs X st t := fun pins s σ H D I hw =>
  wpAny_mono (h pins s σ H D (I.wish _) hw) (fun _ _ q => q.unwish) fun _ _ z => False.elim z
end

section
variable {X : Cx} {st : Stmt} {rest : List Stmt} {t u : TS} {e : Expr} {te : TE} {pos : Pos}
def tNext : TS := fun D σ H => D.nx σ H
def tSeq (t u : TS) : TS := fun D σ H => t { D with nx := u D } σ H
theorem pss_nil : PSs X [] tNext := fun _ _ σ H _ I h => wpAny_execs_nil ⟨σ, H, I, h⟩
theorem pss_cons (h1 : PS X st t) (h2 : PSs X rest u) : PSs X (st :: rest) (tSeq t u) := by
  intro pins s σ H D I h
  refine wpAny_execs_cons (thn (h1 pins s σ H { D with nx := u D } I h) fun f s1 q => ?_)
  cases f with
  | next =>
    obtain ⟨σ', H', I', q⟩ := q
    exact h2 pins s1 σ' H' D I' q
  | ret v => exact q
  | brk => exact q
  | cont => exact q
theorem pss_one (h1 : PS X st t) : PSs X [st] t := by
  intro pins s σ H D I h
  refine wpAny_execs_cons (thn (h1 pins s σ H D I h) fun f s1 q => ?_)
  cases f with
  | next => exact wpAny_execs_nil q
  | ret v => exact q
  | brk => exact q
  | cont => exact q
/-- in a def's body nothing is shown -/
theorem Inv.quiet {pins : List (Addr × Obj)} {σ : St} {H : Hp} {s : Shared} (I : Inv X pins σ H s) : interactive X.env = false := by simp [interactive, I.ok.kind]
/-- an expression whose value is dropped -/
def tDrop (te : TE) : TS := fun D σ H => te σ H fun _ H1 => D.nx σ H1
theorem ps_expr (he : PE X e te) (hs : swapsWith e none pos.line X.env = pure false := by rfl) : PS X (.Expr e pos) (tDrop te) := by
  intro pins s σ H D I h
  exact wpAny_Expr_any (thn (he pins s σ H _ I h) fun v s1 ⟨x, H1, I1, r1, q1⟩ => ⟨σ, H1, I1, q1⟩) I.quiet hs
def tRet (te : TE) : TS := fun D σ H => te σ H D.rt
theorem ps_ret (he : PE X e te) : PS X (.Return (some e) pos) (tRet te) := by
  intro pins s σ H D I h
  exact wpAny_Return_some (thn (he pins s σ H _ I h) fun v s1 ⟨x, H1, I1, r1, q1⟩ => ⟨x, σ, H1, I1, r1, q1⟩)
def tRetN : TS := fun D _ H => D.rt .non H
theorem ps_retN : PS X (.Return none pos) tRetN := fun _ _ σ H _ I h => wpAny_Return_none ⟨.non, σ, H, I, rfl, h⟩
def tIfS (c : TT) (t u : TS) : TS := fun D σ H => c σ H fun b H1 => if b = true then t D σ H1 else u D σ H1
theorem ps_if {c : Expr} {a b : List Stmt} {tc : TT} (hc : PT X c tc) (ha : PSs X a t) (hb : PSs X b u) : PS X (.If c a b pos) (tIfS tc t u) := by
  intro pins s σ H D I h
  refine wpAny_If (thn (hc pins s σ H _ I h) fun d s1 ⟨H1, I1, q1⟩ => ?_)
  cases d with
  | true => exact ha pins s1 σ H1 D I1 q1
  | false => exact hb pins s1 σ H1 D I1 q1
end

abbrev TG := V → St → Hp → (St → Hp → Prop) → Prop
abbrev TGs := List V → St → Hp → (St → Hp → Prop) → Prop
def PG (X : Cx) (target : Expr) (t : TG) : Prop :=
  ∀ (pins : List (Addr × Obj)) (s : Shared) (σ : St) (H : Hp) (v : V) (u : Value) (Q : St → Hp → Prop), Inv X pins σ H s → RelV v u → t v σ H Q →
    wpAny (model X.prog X.w) X.A (assign target X.env u) (fun _ s' => ∃ σ' H', Inv X pins σ' H' s' ∧ Q σ' H') X.xe s
/-- several targets, one after another -/
def PGs (X : Cx) (ts : List Expr) (t : TGs) : Prop :=
  ∀ (pins : List (Addr × Obj)) (s : Shared) (σ : St) (H : Hp) (vs : List V) (us : List Value) (Q : St → Hp → Prop), Inv X pins σ H s → Vals vs us → t vs σ H Q →
    wpAny (model X.prog X.w) X.A (assignInOrder ((assignEach ts X.env).map (·.2)) us) (fun _ s' => ∃ σ' H', Inv X pins σ' H' s' ∧ Q σ' H') X.xe s
/-- o[i] = v, by values -/
abbrev TSet := V → V → V → Hp → (Hp → Prop) → Prop
def PSet (X : Cx) (t : TSet) : Prop :=
  ∀ (pins : List (Addr × Obj)) (s : Shared) (σ : St) (H : Hp) (o i v : V) (ov iv u : Value) (Q : Hp → Prop), Inv X pins σ H s → RelV o ov → RelV i iv → RelV v u → t o i v H Q →
    wpAny (model X.prog X.w) X.A (setItem ov iv u) (fun _ s' => ∃ H', Inv X pins σ H' s' ∧ Q H') X.xe s
/-- a op= b, by values -/
abbrev TIp := V → V → Hp → VK → Prop
def PIp (X : Cx) (op : Operator) (t : TIp) : Prop :=
  ∀ (pins : List (Addr × Obj)) (s : Shared) (σ : St) (H : Hp) (x y : V) (v u : Value) (Q : VK), Inv X pins σ H s → RelV x v → RelV y u → t x y H Q →
    wpAny (model X.prog X.w) X.A (inplaceOp op v u) (EP X pins σ Q) X.xe s
section
variable {X : Cx} {pos : Pos}
def gName (i : Nat) : TG := fun v σ H Q => Q (σ.set i (some v)) H
theorem pg_name {i : Nat} {x : Str} (hN : X.N.Nodup) (hi : X.N[i]? = some x) (hx : Loc X.env.scope x) (hf : X.fn x = true ∨ X.env.scope.names.lookup x = some .local := by first | exact .inl rfl | exact .inr rfl | assumption) : PG X (.Name x pos) (gName i) := by
  intro pins s σ H v u Q I r h
  exact wpAny_assign_Name (store_ok I hN hi hx r (fun s' I' => ⟨_, H, I', h⟩) hf)
def gNil : TGs := fun vs σ H Q => vs = [] ∧ Q σ H
def gCons (t : TG) (u : TGs) : TGs := fun vs σ H Q => ∃ v r, vs = v :: r ∧ t v σ H fun σ' H' => u r σ' H' Q
theorem pgs_nil : PGs X [] gNil := by
  intro pins s σ H vs us Q I r h
  obtain ⟨e, h⟩ := h
  subst e
  cases r
  exact assignInOrder_nil ⟨σ, H, I, h⟩
theorem pgs_cons {e : Expr} {es : List Expr} {t : TG} {u : TGs} (h1 : PG X e t) (h2 : PGs X es u)
    (hs : (assignEach (e :: es) X.env).map (·.2) = assign e X.env :: (assignEach es X.env).map (·.2) := by rfl) : PGs X (e :: es) (gCons t u) := by
  intro pins s σ H vs us Q I r h
  obtain ⟨v, vr, e1, h⟩ := h
  subst e1
  cases r with
  | cons r rr =>
    rw [hs]
    refine assignInOrder_cons (thn (h1 pins s σ H _ _ _ I r h) fun _ s1 ⟨σ1, H1, I1, q1⟩ => ?_)
    exact h2 pins s1 σ1 H1 _ _ Q I1 rr q1
/-- (a, b, ..) = a tuple of that length -/
def gTup (K : PySem.W.Frag) (n : Nat) (t : TGs) : TG := fun v σ H Q => ∃ a xs, v = .ref a ∧ SqT K H a xs ∧ xs.length = n ∧ t xs σ H Q
theorem pg_tup {es : List Expr} {k : Nat} {t : TGs} {n : Nat} (hc : X.calm = true) (h : PGs X es t)
    (hn : (assignEach es X.env).length = n := by rfl) (hst : (assignEach es X.env).findIdx? (·.1) = none := by rfl) : PG X (.Tuple es k pos) (gTup X.K n t) := by
  intro pins s σ H v u Q I r hw
  obtain ⟨a, xs, e1, hq, hl, hw⟩ := hw
  subst e1
  cases r
  obtain ⟨its, rv, ht, hz⟩ := I.tuple hq
  refine assign_Tuple_tuple (I.ok.hd hc) ht (by simp [hn, ← hl, rv.length]) hst fun h' hx => ?_
  have I1 : Inv X pins σ H { s with heap := h' } := I.kept (t' := s.toks) fun b o e => hx b o (Nat.ne_of_lt (Heap.lt_size e)) e
  exact h pins _ σ H xs _ Q I1 (by simpa using rv) hw
/-- target = value -/
def tAsg (te : TE) (g : TG) : TS := fun D σ H => te σ H fun x H1 => g x σ H1 D.nx
theorem ps_asg {tg e : Expr} {te : TE} {g : TG} (he : PE X e te) (hg : PG X tg g) (hs : swapsWithSole [tg] e pos.line X.env = pure false := by rfl) (hw : swappedStores [tg] e X.env = pure none := by rfl)
    (h1 : (assignEach [tg] X.env).map (·.2) = [assign tg X.env] := by rfl) : PS X (.Assign [tg] e pos) (tAsg te g) := by
  intro pins s σ H D I h
  refine wpAny_Assign_stores (thn (he pins s σ H _ I h) fun v s1 ⟨x, H1, I1, r1, q1⟩ => ?_) hs hw
  rw [h1]
  exact thn (hg pins s1 σ H1 x v _ I1 r1 q1) fun _ s2 q => q
/-- name = value -/
theorem ps_set {i : Nat} {x : Str} {e : Expr} {te : TE} {pos' : Pos} (hN : X.N.Nodup) (hi : X.N[i]? = some x) (hx : Loc X.env.scope x) (he : PE X e te) (hs : swapsWith e (some (.Name x pos')) pos.line X.env = pure false := by rfl) (hf : X.fn x = true ∨ X.env.scope.names.lookup x = some .local := by first | exact .inl rfl | exact .inr rfl | assumption) :
    PS X (.Assign [.Name x pos'] e pos) (tAsg te (gName i)) := by
  intro pins s σ H D I h
  refine wpAny_Assign_Name (thn (he pins s σ H _ I h) fun v s1 ⟨y, H1, I1, r1, q1⟩ => ?_) hs
  exact store_ok I1 hN hi hx r1 (fun s2 I2 => ⟨_, H1, I2, q1⟩) hf
/-- name op= e -/
def tAug (i : Nat) (te : TE) (ti : TIp) : TS := fun D σ H => ∃ x, σ[i]? = some (some x) ∧ te σ H fun y H1 => ti x y H1 fun z H2 => D.nx (σ.set i (some z)) H2
theorem ps_aug {i : Nat} {x : Str} {e : Expr} {te : TE} {op : Operator} {ti : TIp} {pos' : Pos} (hN : X.N.Nodup) (hi : X.N[i]? = some x) (hx : Loc X.env.scope x) (he : PE X e te) (ho : PIp X op ti) (hf : X.fn x = true ∨ X.env.scope.names.lookup x = some .local := by first | exact .inl rfl | exact .inr rfl | assumption) :
    PS X (.AugAssign (.Name x pos') op e pos) (tAug i te ti) := by
  intro pins s σ H D I h
  obtain ⟨v, e1, h⟩ := h
  obtain ⟨m, hn, hl⟩ := I.loc
  have vis : Vis X.env.scope x := by rcases hx with k | k; exact .inl k; exact .inr (.inl k)
  obtain ⟨u, r, l⟩ := hl i x v hi e1 vis
  refine wpAny_AugAssign_Name ?_
  have go : wpAny (model X.prog X.w) X.A (eval e X.env) (fun w s₂ => wpAny (model X.prog X.w) X.A (inplaceOp op u w) (fun r s₃ => wpAny (model X.prog X.w) X.A (storeName X.env x r) (fun _ => SP X pins D .next) X.xe s₃) X.xe s₂) X.xe s := by
    refine thn (he pins s σ H _ I h) fun w s1 ⟨y, H1, I1, r1, q1⟩ => ?_
    refine thn (ho pins s1 σ H1 v y u w _ I1 r r1 q1) fun z s2 ⟨zv, H2, I2, r2, q2⟩ => ?_
    exact store_ok I2 hN hi hx r2 (fun s3 I3 => ⟨_, H2, I3, q2⟩) hf
  rcases l with ⟨hk, hm⟩ | ⟨hk, c, hc, hcell⟩
  · exact wpAny_loadName_local I.ok.kind hk hn hm go
  · rcases hk with hk | hk
    · exact wpAny_loadName_cell I.ok.kind hk hc hcell go
    · rcases hx with k | k
      · have : X.env.scope.names.lookup x = some .free := hk
        rw [k] at this; cases this
      · have : X.env.scope.names.lookup x = some .free := hk
        rw [k] at this; cases this
/-- ints -/
def ipI (f : Int → Int → Int) : TIp := fun x y H Q => ∃ i j, x = .int i ∧ y = .int j ∧ Q (.int (f i j)) H
theorem ip_add : PIp X .Add (ipI fun i j => i + j) := by
  intro pins s σ H x y v u Q I r1 r2 h
  obtain ⟨i, j, e1, e2, q⟩ := h
  subst e1; subst e2
  obtain ⟨t, rfl⟩ := r1
  obtain ⟨t', rfl⟩ := r2
  exact iadd_int ⟨.int _, H, I.tok _, ⟨_, rfl⟩, q⟩
end

section
variable {X : Cx} {pos : Pos}
/-- the invariant W with its measure -/
def tWhile (c : TT) (tb : TS) : TS := fun D σ H => ∃ W : Nat → St → Hp → Prop, (∃ m, W m σ H) ∧ ∀ m σ H, W m σ H →
  c σ H fun b H1 => if b = true then ∃ N : St → Hp → Prop, (∀ σ' H', N σ' H' → ∃ m', m' < m ∧ W m' σ' H') ∧ tb { D with nx := N, ct := N, bk := D.nx } σ H1 else D.nx σ H1
theorem ps_while {c : Expr} {body : List Stmt} {tc : TT} {tb : TS} (hp : PassesOwn (model X.prog X.w) X.A X.env X.xe) (hc : PT X c tc) (hb : PSs X body tb) : PS X (.While c body [] pos) (tWhile tc tb) := by
  intro pins s σ H D I h
  obtain ⟨W, ⟨m0, w0⟩, turn⟩ := h
  refine wpAny_While (codeAny_whileLoop (fun n s' => ∃ σ' H', Inv X pins σ' H' s' ∧ W n σ' H') ?_ m0 ⟨σ, H, I, w0⟩)
  rintro n s1 ⟨σ1, H1, I1, w1⟩
  refine wpAny_passesOwn hp (thn (hc pins s1 σ1 H1 _ I1 (turn n σ1 H1 w1)) fun b s2 ⟨H2, I2, q2⟩ => ?_)
  cases b with
  | true =>
    obtain ⟨N, hN, q2⟩ := q2
    rw [if_pos rfl]
    refine wpAny_passesOwn hp (thn (hb pins s2 σ1 H2 _ I2 q2) fun f s3 q3 => ?_)
    cases f with
    | next =>
      obtain ⟨σ3, H3, I3, n3⟩ := q3
      obtain ⟨m', hm, w3⟩ := hN σ3 H3 n3
      exact ⟨m', hm, σ3, H3, I3, w3⟩
    | cont =>
      obtain ⟨σ3, H3, I3, n3⟩ := q3
      obtain ⟨m', hm, w3⟩ := hN σ3 H3 n3
      exact ⟨m', hm, σ3, H3, I3, w3⟩
    | brk => exact q3
    | ret v => exact q3
  | false =>
    rw [if_neg Bool.false_ne_true]
    exact wpAny_execs_nil ⟨σ1, H2, I2, q2⟩
end

/-- at turn i: it yields x (the heap may grow), or it stops -/
structure It where
  go : Nat → Hp → Prop
  yld : Nat → Hp → V → Hp → Prop
  stop : Nat → Hp → Prop
/-- the iterator's own objects may turn: they are not the frame's, not pinned, younger than the entry (or a comprehension's own) -/
def FpOk (X : Cx) (pins : List (Addr × Obj)) (H : Hp) (b : Addr) : Prop :=
  H b = none ∧ b ≠ X.env.locals ∧ b ∉ X.fs ∧ (b ∈ X.ex ∨ X.s₀.heap.objs.size ≤ b) ∧ (∀ x c, X.env.cells.lookup x = some c → c ≠ b) ∧ ∀ p ∈ X.pn ++ pins, p.1 ≠ b
theorem Inv.fpOk {X : Cx} {pins : List (Addr × Obj)} {σ : St} {H H' : Hp} {s : Shared} {b : Addr} (I : Inv X pins σ H s) (hb : s.heap.objs.size ≤ b) (hn : H' b = none) : FpOk X pins H' b := by
  refine ⟨hn, Nat.ne_of_gt (Nat.lt_of_lt_of_le I.lt hb), I.nofs hb, .inr (Nat.le_trans I.sz hb), fun x c e z => ?_, fun p hp z => ?_⟩
  · obtain ⟨v, q⟩ := I.cell x c e
    exact absurd (Nat.lt_of_lt_of_le q.lt (by rw [z]; exact hb)) (Nat.lt_irrefl _)
  · exact absurd (Nat.lt_of_lt_of_le (Heap.lt_size (I.pin p hp).1) (by rw [z]; exact hb)) (Nat.lt_irrefl _)
structure Turn (P : Program) (w : World) (K : PySem.W.Frag) (tg : Expr) (J : It) (fp : List Addr) (it : Addr) (tn : Nat → Heap → Prop) : Prop where
  mem : it ∈ fp
  obj : ∀ i h, tn i h → ∀ b ∈ fp, ∃ o, h.get? b = some o ∧ ∀ v, o.data ≠ .cell v
  keep : ∀ i h h', tn i h → (∀ b ∈ fp, ∀ o, h.get? b = some o → h'.get? b = some o) → tn i h'
  item : ∀ (X : Cx), X.prog = P → X.w = w → X.K = K → X.calm = true → ∀ (i : Nat) (pins : List (Addr × Obj)) (s : Shared) (σ : St) (H : Hp) (E : Value → Shared → Prop), Inv X pins σ H s → (∀ b ∈ fp, FpOk X pins H b) → tn i s.heap → J.go i H →
    wpAny (model P w) X.A (pyNext (.ref it)) (fun r s1 => ∃ u, r = some u ∧
      wpAny (model P w) X.A (letOwnedTupleGo tg (.ref it) u) (fun _ s2 => ∃ x H', Inv X pins σ H' s2 ∧ RelV x u ∧ J.yld i H x H' ∧ tn (i + 1) s2.heap ∧ ∀ b ∈ fp, H' b = none) E s1) E s
  done : ∀ (X : Cx), X.prog = P → X.w = w → X.K = K → X.calm = true → ∀ (i : Nat) (pins : List (Addr × Obj)) (s : Shared) (σ : St) (H : Hp) (E : Value → Shared → Prop), Inv X pins σ H s → (∀ b ∈ fp, FpOk X pins H b) → tn i s.heap → J.stop i H →
    wpAny (model P w) X.A (pyNext (.ref it)) (fun r s1 => r = none ∧ Inv X pins σ H s1) E s
  self : ∀ (A : Around) (i : Nat) (s : Shared) (Q : Value → Shared → Prop) (E : Value → Shared → Prop), tn i s.heap → Q (.ref it) s → wpAny (model P w) A (pyIter (.ref it)) Q E s
abbrev TI := St → Hp → (It → Hp → Prop) → Prop
/-- an iterator has come -/
def PIE (X : Cx) (pins : List (Addr × Obj)) (σ : St) (tg : Expr) (R : It → Hp → Prop) (itv : Value) (s2 : Shared) : Prop :=
  ∃ (it : Addr) (fp : List Addr) (tn : Nat → Heap → Prop) (J : It) (H' : Hp), itv = .ref it ∧ Inv X pins σ H' s2 ∧ Turn X.prog X.w X.K tg J fp it tn ∧ tn 0 s2.heap ∧ (∀ b ∈ fp, FpOk X pins H' b) ∧ R J H'
def PI (X : Cx) (tg iter : Expr) (wi : TI) : Prop :=
  ∀ (pins : List (Addr × Obj)) (s : Shared) (σ : St) (H : Hp) (R : It → Hp → Prop), Inv X pins σ H s → wi σ H R →
    wpAny (model X.prog X.w) X.A (eval iter X.env) (fun v s1 => wpAny (model X.prog X.w) X.A (pyIter v) (PIE X pins σ tg R) X.xe s1) X.xe s

/-- the step ahead of the store is nothing for an iterator that keeps no tuple -/
theorem go_of {M : Model} {A : Around} {E : Value → Shared → Prop} {s : Shared} {tg : Expr} {it : Addr} {u : Value} {o : Obj} {n : String} {vs : Array Value} {Q : Unit → Shared → Prop} (ho : s.heap.get? it = some o) (hc : o.cls = .type n) (hd : o.data = .fields vs)
    (hn : ["enumerate", "zip", "dict_itemiterator", "dict_reverseitemiterator", "odict_iterator", "itertools.zip_longest", "itertools.pairwise"].contains n = false) (hQ : Q () s) : wpAny M A (letOwnedTupleGo tg (.ref it) u) Q E s := by
  unfold letOwnedTupleGo
  cases tg <;> first
    | exact wpAny_pure hQ
    | (cases u <;> first
        | exact wpAny_pure hQ
        | (refine wpAny_bind (wpAny_load ho ?_)
           rw [hc, hd]
           show wpAny M A (if (["enumerate", "zip", "dict_itemiterator", "dict_reverseitemiterator", "odict_iterator", "itertools.zip_longest", "itertools.pairwise"].contains n && vs[0]? == some (rawInt _)) = true then _ else _) Q E s
           rw [if_neg (by intro h; rw [hn, Bool.false_and] at h; cases h)]
           exact wpAny_pure hQ))

/-- the list at a, as it stands at each turn (a loop may append to it) -/
def Itl (K : PySem.W.Frag) (a : Addr) : It :=
  ⟨fun i H => ∃ xs x, SqL K H a xs ∧ xs[i]? = some x, fun i H x H' => H' = H ∧ ∀ xs, SqL K H a xs → xs[i]? = some x, fun i H => ∃ xs, SqL K H a xs ∧ xs.length ≤ i⟩
def Itt (K : PySem.W.Frag) (a : Addr) : It :=
  ⟨fun i H => ∃ xs x, SqT K H a xs ∧ xs[i]? = some x, fun i H x H' => H' = H ∧ ∀ xs, SqT K H a xs → xs[i]? = some x, fun i H => ∃ xs, SqT K H a xs ∧ xs.length ≤ i⟩
/-- lo, lo + 1, .. (n of them) -/
def Itr (lo : Int) (n : Nat) : It := ⟨fun i _ => i < n, fun i H x H' => H' = H ∧ x = .int (lo + i), fun i _ => n ≤ i⟩
theorem turn_list {P : Program} {w : World} {K : PySem.W.Frag} {tg : Expr} (a it : Addr) : Turn P w K tg (Itl K a) [it] it (fun i h => h.IsListIter it a i) where
  mem := by simp
  obj := fun i h st b hb => by
    have e : b = it := by simpa using hb
    subst e
    obtain ⟨o, e, c, d⟩ := st
    exact ⟨o, e, fun v z => by rw [d] at z; cases z⟩
  keep := fun i h h' st k => st.at fun o e => k it (by simp) o e
  item := by
    intro X hP hw hK hc i pins s σ H E I hf st hg
    subst hP hw hK
    obtain ⟨xs, x, hq, hx⟩ := hg
    obtain ⟨its, rv, p, hz⟩ := I.list hq
    obtain ⟨u, hu, ru⟩ := rv.get hx
    obtain ⟨f0, f1, f2, f3, f4, f5⟩ := hf it (by simp)
    refine wpAny_pyNext_list_item st p.isList (x := u) (by simpa using hu) fun h' st' sb => ?_
    have I1 : Inv X pins σ H { s with heap := h' } := I.turned (t' := s.toks) (fun b o hb e => (sb.2 b hb).trans e) f0 f1 f3 f4 f5
    obtain ⟨o, e, c, d⟩ := id st'
    exact ⟨u, rfl, go_of (s := { s with heap := h' }) e c d (by decide) ⟨x, H, I1, ru, ⟨rfl, fun ys hy => by rw [I.list_inj hy hq]; exact hx⟩, st', fun b hb => (hf b hb).1⟩⟩
  done := by
    intro X hP hw hK hc i pins s σ H E I hf st hg
    subst hP hw hK
    obtain ⟨xs, hq, hx⟩ := hg
    obtain ⟨its, rv, p, hz⟩ := I.list hq
    obtain ⟨f0, f1, f2, f3, f4, f5⟩ := hf it (by simp)
    have hl := rv.length
    exact wpAny_pyNext_list_end (I.ok.hd hc) st p.isList (by simp; omega) fun h' eb => ⟨rfl, I.turned (t' := s.toks) (fun b o hb e => eb b o hb e) f0 f1 f3 f4 f5⟩
  self := fun _ _ _ _ _ st h => wpAny_pyIter_listiter st h
theorem turn_tuple {P : Program} {w : World} {K : PySem.W.Frag} {tg : Expr} (a it : Addr) : Turn P w K tg (Itt K a) [it] it (fun i h => h.IsTupleIter it a i) where
  mem := by simp
  obj := fun i h st b hb => by
    have e : b = it := by simpa using hb
    subst e
    obtain ⟨o, e, c, d⟩ := st
    exact ⟨o, e, fun v z => by rw [d] at z; cases z⟩
  keep := fun i h h' st k => st.at fun o e => k it (by simp) o e
  item := by
    intro X hP hw hK hc i pins s σ H E I hf st hg
    subst hP hw hK
    obtain ⟨xs, x, hq, hx⟩ := hg
    obtain ⟨its, rv, p, hz⟩ := I.tuple hq
    obtain ⟨u, hu, ru⟩ := rv.get hx
    obtain ⟨f0, f1, f2, f3, f4, f5⟩ := hf it (by simp)
    refine wpAny_pyNext_tuple_item st (show s.heap.IsTuple a its.toArray from p) (x := u) (by simpa using hu) fun h' st' sb => ?_
    have I1 : Inv X pins σ H { s with heap := h' } := I.turned (t' := s.toks) (fun b o hb e => (sb.2 b hb).trans e) f0 f1 f3 f4 f5
    obtain ⟨o, e, c, d⟩ := id st'
    exact ⟨u, rfl, go_of (s := { s with heap := h' }) e c d (by decide) ⟨x, H, I1, ru, ⟨rfl, fun ys hy => by rw [I.tuple_inj hy hq]; exact hx⟩, st', fun b hb => (hf b hb).1⟩⟩
  done := by
    intro X hP hw hK hc i pins s σ H E I hf st hg
    subst hP hw hK
    obtain ⟨xs, hq, hx⟩ := hg
    obtain ⟨its, rv, p, hz⟩ := I.tuple hq
    obtain ⟨f0, f1, f2, f3, f4, f5⟩ := hf it (by simp)
    have hl := rv.length
    exact wpAny_pyNext_tuple_end (I.ok.hd hc) st (show s.heap.IsTuple a its.toArray from p) (by simp; omega) fun h' eb => ⟨rfl, I.turned (t' := s.toks) (fun b o hb e => eb b o hb e) f0 f1 f3 f4 f5⟩
  self := fun _ _ _ _ _ st h => wpAny_pyIter_tupleiter st h
theorem turn_range {P : Program} {w : World} {K : PySem.W.Frag} {tg : Expr} (it : Addr) (lo : Int) (n : Nat) : Turn P w K tg (Itr lo n) [it] it (fun i h => IsRangeIter h it (lo + (i : Nat) * 1) ((n : Int) - (i : Nat)) 1) where
  mem := by simp
  obj := fun i h st b hb => by
    have e : b = it := by simpa using hb
    subst e
    exact ⟨_, st, fun v z => by
      have z' : Data.fields _ = Data.cell v := z
      cases z'⟩
  keep := fun i h h' st k => k it (by simp) _ st
  item := by
    intro X hP hw hK hc i pins s σ H E I hf st hg
    subst hP hw hK
    obtain ⟨f0, f1, f2, f3, f4, f5⟩ := hf it (by simp)
    have W := Walks.range (prog := X.prog) (w := X.w) (I.ok.hd hc) it lo 1 n
    refine W.item i s _ _ hg st fun v h' tk hv st' kk => ?_
    obtain ⟨t, rfl⟩ := hv
    have I1 : Inv X pins σ H { s with heap := h', toks := tk } := I.turned (fun b o hb e => kk b o (by simpa using hb) e) f0 f1 f3 f4 f5
    refine ⟨_, rfl, go_of (s := { s with heap := h', toks := tk }) (n := "range_iterator") st' rfl rfl (by decide) ⟨.int (lo + i), H, I1, ⟨t, ?_⟩, ⟨rfl, rfl⟩, st', fun b hb => (hf b hb).1⟩⟩
    rw [Int.mul_one]
  done := by
    intro X hP hw hK hc i pins s σ H E I hf st hg
    subst hP hw hK
    obtain ⟨f0, f1, f2, f3, f4, f5⟩ := hf it (by simp)
    exact wpAny_pyNext_range_end (I.ok.hd hc) st (by have : n ≤ i := hg; omega) fun h' eb => ⟨rfl, I.turned (t' := s.toks) (fun b o hb e => eb b o hb e) f0 f1 f3 f4 f5⟩
  self := fun _ _ _ _ _ st h => wpAny_pyIter_rangeiter st h
end L2

namespace L2
open PySem PySem.Spec PyProof.Rows
section
variable {X : Cx} {tg : Expr}
def iList (K : PySem.W.Frag) (tl : TE) : TI := fun σ H R => tl σ H fun x H1 => ∃ a, x = .ref a ∧ (∃ xs, SqL K H1 a xs) ∧ R (Itl K a) H1
def iTup (K : PySem.W.Frag) (tl : TE) : TI := fun σ H R => tl σ H fun x H1 => ∃ a, x = .ref a ∧ (∃ xs, SqT K H1 a xs) ∧ R (Itt K a) H1
theorem pi_list {l : Expr} {tl : TE} (hl : PE X l tl) : PI X tg l (iList X.K tl) := by
  intro pins s σ H R I h
  refine thn (hl pins s σ H _ I h) fun v s1 ⟨x, H1, I1, r1, q1⟩ => ?_
  obtain ⟨a, e, ⟨xs, hq⟩, q⟩ := q1
  subst e
  cases r1
  obtain ⟨its, rv, p, hz⟩ := I1.list hq
  refine wpAny_pyIter_list p.isList ?_
  refine ⟨s1.heap.objs.size, [s1.heap.objs.size], _, _, H1, rfl, I1.kept (t' := s1.toks) fun b o e => Heap.get?_push_of_some _ e, turn_list a _, ⟨_, Heap.get?_push_size _ rfl, rfl, rfl⟩, fun b hb => ?_, q⟩
  have e : b = s1.heap.objs.size := by simpa using hb
  subst e
  exact I1.fpOk (Nat.le_refl _) (I1.hok.fresh (Nat.le_refl _))
theorem pi_tup {l : Expr} {tl : TE} (hl : PE X l tl) : PI X tg l (iTup X.K tl) := by
  intro pins s σ H R I h
  refine thn (hl pins s σ H _ I h) fun v s1 ⟨x, H1, I1, r1, q1⟩ => ?_
  obtain ⟨a, e, ⟨xs, hq⟩, q⟩ := q1
  subst e
  cases r1
  obtain ⟨its, rv, p, hz⟩ := I1.tuple hq
  refine wpAny_pyIter_tuple (show s1.heap.IsTuple a its.toArray from p) ?_
  refine ⟨s1.heap.objs.size, [s1.heap.objs.size], _, _, H1, rfl, I1.kept (t' := s1.toks) fun b o e => Heap.get?_push_of_some _ e, turn_tuple a _, ⟨_, Heap.get?_push_size _ rfl, rfl, rfl⟩, fun b hb => ?_, q⟩
  have e : b = s1.heap.objs.size := by simpa using hb
  subst e
  exact I1.fpOk (Nat.le_refl _) (I1.hok.fresh (Nat.le_refl _))
/-- a range object just made, walked -/
theorem range_it {pins : List (Addr × Obj)} {σ : St} {H : Hp} {s : Shared} {R : It → Hp → Prop} {E : Value → Shared → Prop} {lo hi : Int} {t u v : Tok} {tk : Nat} (I : Inv X pins σ H s) (h1 : -(2 ^ 62) ≤ lo) (h2 : lo < 2 ^ 62) (h3 : -(2 ^ 62) ≤ hi) (h4 : hi < 2 ^ 62)
    (q : R (Itr lo (hi - lo).toNat) H) : wpAny (model X.prog X.w) X.A (pyIter (.ref s.heap.objs.size)) (PIE X pins σ tg R) E { s with heap := s.heap.push { cls := .type "range", data := .fields #[.int lo t, .int hi u, .int 1 v] }, toks := tk } := by
  refine wpAny_pyIter_range (IsRange.new ..) (small_one h1 h2 h3 h4) ?_
  have I1 : Inv X pins σ H { s with heap := s.heap.push { cls := .type "range", data := .fields #[.int lo t, .int hi u, .int 1 v] }, toks := tk } := I.kept fun b o e => Heap.get?_push_of_some _ e
  refine ⟨(s.heap.push { cls := .type "range", data := .fields #[.int lo t, .int hi u, .int 1 v] }).objs.size, [(s.heap.push { cls := .type "range", data := .fields #[.int lo t, .int hi u, .int 1 v] }).objs.size], _, _, H, rfl,
    I1.kept (t' := tk) fun b o e => Heap.get?_push_of_some _ e, turn_range _ lo (hi - lo).toNat, ?_, fun b hb => ?_, q⟩
  · have e1 : lo + ((0 : Nat) : Int) * 1 = lo := by simp
    have e2 : (((hi - lo).toNat : Nat) : Int) - ((0 : Nat) : Int) = Builtin.Range.rangeSize lo hi 1 := by rw [rangeSize_one]; split <;> omega
    show IsRangeIter _ _ (lo + ((0 : Nat) : Int) * 1) ((((hi - lo).toNat : Nat) : Int) - ((0 : Nat) : Int)) 1
    rw [e1, e2]
    exact Heap.get?_push_size _ rfl
  · have e : b = (s.heap.push { cls := .type "range", data := .fields #[.int lo t, .int hi u, .int 1 v] }).objs.size := by simpa using hb
    subst e
    exact I1.fpOk (Nat.le_refl _) (I1.hok.fresh (Nat.le_refl _))
def iRng1 (ta : TA) : TI := fun σ H R => ta σ H fun vs H1 => ∃ j : Int, vs = [.int j] ∧ -(2 ^ 62) ≤ j ∧ j < 2 ^ 62 ∧ R (Itr 0 j.toNat) H1
theorem pi_range1 {a : Expr} {ta : TA} {p pos : Pos} (hg : Gl X "range") (hm : X.mg "range" = none) (ha : PA X [a] ta) (hs : starEach [a] X.env = [(false, eval a X.env)] := by rfl) : PI X tg (.Call (.Name "range" p) [a] [] pos) (iRng1 ta) := by
  intro pins s σ H R I h
  refine Call_ (ld_blt I hg hm boot_range (PyProof.Rows.callWith_type1 (thn (ha pos pins s σ H _ I h) fun us s1 ⟨vs, H1, I1, r1, q1⟩ => ?_) hs rfl))
  obtain ⟨j, e, q1, q2, q⟩ := q1
  subst e
  cases r1 with
  | cons r rr =>
    cases rr
    obtain ⟨t, rfl⟩ := r
    exact call_range_1 (range_it I1 (by omega) (by omega) q1 q2 (by simpa using q))
/-- W: the invariant by the turn and a measure; N: what the body is to reach -/
def tFor (wi : TI) (g : TG) (tb : TS) : TS := fun D σ H => wi σ H fun J H1 => ∃ W : Nat → Nat → St → Hp → Prop, (∃ m, W 0 m σ H1) ∧ ∀ i m σ H, W i m σ H →
  (J.stop i H ∧ D.nx σ H) ∨ (J.go i H ∧ ∃ N : St → Hp → Prop, (∀ σ' H', N σ' H' → ∃ m', m' < m ∧ W (i + 1) m' σ' H') ∧ ∀ x H', J.yld i H x H' → g x σ H' fun σ2 H2 => tb { D with nx := N, ct := N, bk := D.nx } σ2 H2)
/-- the records at fp as they stand -/
def pinsAt (fp : List Addr) (h : Heap) : List (Addr × Obj) := fp.filterMap fun b => (h.get? b).map fun o => (b, o)
theorem mem_pinsAt {fp : List Addr} {h : Heap} {b : Addr} {o : Obj} (hb : b ∈ fp) (e : h.get? b = some o) : (b, o) ∈ pinsAt fp h := List.mem_filterMap.mpr ⟨b, hb, by rw [e]; rfl⟩
theorem of_pinsAt {fp : List Addr} {h : Heap} {p : Addr × Obj} (hp : p ∈ pinsAt fp h) : p.1 ∈ fp ∧ h.get? p.1 = some p.2 := by
  obtain ⟨b, hb, e⟩ := List.mem_filterMap.mp hp
  cases q : h.get? b with
  | none => rw [q] at e; cases e
  | some o =>
    rw [q] at e
    have e' : (b, o) = p := Option.some.inj e
    subst e'
    exact ⟨hb, q⟩
theorem Inv.pinned {pins : List (Addr × Obj)} {σ : St} {H : Hp} {s : Shared} {fp : List Addr} (I : Inv X pins σ H s) (hf : ∀ b ∈ fp, FpOk X pins H b) (ho : ∀ b ∈ fp, ∃ o, s.heap.get? b = some o ∧ ∀ v, o.data ≠ .cell v) : Inv X (pins ++ pinsAt fp s.heap) σ H s :=
  I.pins_of fun p hp => (List.mem_append.mp hp).elim (fun z => I.pin p (List.mem_append_right _ z)) fun z => by
    obtain ⟨hb, e⟩ := of_pinsAt z
    obtain ⟨f0, f1, f2, _⟩ := hf p.1 hb
    obtain ⟨o, e', d⟩ := ho p.1 hb
    rw [e] at e'; cases e'
    exact ⟨e, f0, f1, f2, d⟩
theorem Inv.unpinned {pins pl : List (Addr × Obj)} {σ : St} {H : Hp} {s : Shared} (I : Inv X (pins ++ pl) σ H s) : Inv X pins σ H s := I.pins_of fun p hp => I.pin p (List.mem_append_right _ (List.mem_append_left _ hp))
theorem ps_for {iter : Expr} {body : List Stmt} {wi : TI} {g : TG} {tb : TS} {pos : Pos} (hp : PassesOwn (model X.prog X.w) X.A X.env X.xe) (hc : X.calm = true) (hi : PI X tg iter wi) (hg : PG X tg g) (hb : PSs X body tb)
    (hs : ∀ x, foldedSetIterable iter X.env x = pure x := by intro _; rfl) : PS X (.For tg iter body [] pos) (tFor wi g tb) := by
  intro pins s σ H D I h
  refine wpAny_For (thn (hi pins s σ H _ I h) fun v s1 h1 => thn h1 fun itv s2 h2 => ?_) hs
  obtain ⟨it, fp, tn, J, H2, e, I2, T, st2, f2, W, ⟨m0, w0⟩, turn⟩ := h2
  subst e
  -- what stays true of the iterator's objects through the loop
  have stat : ∀ {H' : Hp}, (∀ b ∈ fp, H' b = none) → ∀ b ∈ fp, FpOk X pins H' b := fun hn b hb => ⟨hn b hb, (f2 b hb).2⟩
  refine codeAny_forLoop_any (fun n s' => ∃ i σ' H', Inv X pins σ' H' s' ∧ tn i s'.heap ∧ (∀ b ∈ fp, H' b = none) ∧ W i n σ' H') ?_ m0 ⟨0, σ, H2, I2, st2, fun b hb => (f2 b hb).1, w0⟩
  rintro n s3 ⟨i, σ3, H3, I3, st3, fr3, w3⟩
  rcases turn i n σ3 H3 w3 with ⟨stop, qn⟩ | ⟨go, N, hN, step⟩
  · refine wpAny_passesOwn hp (thn (T.done X rfl rfl rfl hc i pins s3 σ3 H3 X.xe I3 (stat fr3) st3 stop) fun r s4 ⟨hr, I4⟩ => ?_)
    subst hr
    exact wpAny_execs_nil ⟨σ3, H3, I4, qn⟩
  · refine wpAny_passesOwn hp (thn (T.item X rfl rfl rfl hc i pins s3 σ3 H3 X.xe I3 (stat fr3) st3 go) fun r s4 ⟨u, hr, h4⟩ => ?_)
    subst hr
    refine wpAny_passesOwn hp (thn h4 fun _ s5 ⟨x, H5, I5, r5, y5, st5, fr5⟩ => ?_)
    have I5' := I5.pinned (stat fr5) (T.obj _ _ st5)
    refine wpAny_passesOwn hp (thn (hg _ s5 σ3 H5 x u _ I5' r5 (step x H5 y5)) fun _ s6 ⟨σ6, H6, I6, q6⟩ => ?_)
    refine wpAny_passesOwn hp (thn (hb _ s6 σ6 H6 _ I6 q6) fun f s7 q7 => ?_)
    have again : ∀ {σ7 : St} {H7 : Hp}, Inv X (pins ++ pinsAt fp s5.heap) σ7 H7 s7 → N σ7 H7 → ∃ m, m < n ∧ ∃ i σ' H', Inv X pins σ' H' s7 ∧ tn i s7.heap ∧ (∀ b ∈ fp, H' b = none) ∧ W i m σ' H' := fun {σ7 H7} I7 n7 => by
      obtain ⟨m', hm, w7⟩ := hN σ7 H7 n7
      refine ⟨m', hm, i + 1, σ7, H7, I7.unpinned, T.keep _ _ _ st5 fun b hb o e => (I7.pin (b, o) (List.mem_append_right _ (List.mem_append_right _ (mem_pinsAt hb e)))).1, fun b hb => ?_, w7⟩
      obtain ⟨o, e, d⟩ := T.obj _ _ st5 b hb
      exact (I7.pin (b, o) (List.mem_append_right _ (List.mem_append_right _ (mem_pinsAt hb e)))).2.1
    cases f with
    | next => obtain ⟨σ7, H7, I7, n7⟩ := q7; exact again I7 n7
    | cont => obtain ⟨σ7, H7, I7, n7⟩ := q7; exact again I7 n7
    | brk => obtain ⟨σ7, H7, I7, q7⟩ := q7; exact ⟨σ7, H7, I7.unpinned, q7⟩
    | ret v => obtain ⟨x7, σ7, H7, I7, r7, q7⟩ := q7; exact ⟨x7, σ7, H7, I7.unpinned, r7, q7⟩
end

/-- over a list that the body leaves as it is -/
theorem for_list {K : PySem.W.Frag} {a : Addr} {xs : List V} {g : TG} {tb : TS} {D : Ends} {σ : St} {H : Hp} (Pv : Nat → St → Hp → Prop) (h0 : Pv 0 σ H) (hl : ∀ i σ H, i ≤ xs.length → Pv i σ H → SqL K H a xs)
    (hs : ∀ i x σ H, xs[i]? = some x → Pv i σ H → g x σ H fun σ2 H2 => tb { D with nx := Pv (i + 1), ct := Pv (i + 1), bk := D.nx } σ2 H2) (hd : ∀ σ H, Pv xs.length σ H → D.nx σ H) :
    ∃ W : Nat → Nat → St → Hp → Prop, (∃ m, W 0 m σ H) ∧ ∀ i m σ H, W i m σ H →
      ((Itl K a).stop i H ∧ D.nx σ H) ∨ ((Itl K a).go i H ∧ ∃ N : St → Hp → Prop, (∀ σ' H', N σ' H' → ∃ m', m' < m ∧ W (i + 1) m' σ' H') ∧ ∀ x H', (Itl K a).yld i H x H' → g x σ H' fun σ2 H2 => tb { D with nx := N, ct := N, bk := D.nx } σ2 H2) := by
  refine ⟨fun i m σ H => m = xs.length - i ∧ i ≤ xs.length ∧ Pv i σ H, ⟨xs.length, by simp, Nat.zero_le _, h0⟩, ?_⟩
  rintro i m σ H ⟨rfl, hi, p⟩
  have q := hl i σ H hi p
  by_cases hlt : i < xs.length
  · refine .inr ⟨⟨xs, xs[i], q, by simp [hlt]⟩, Pv (i + 1), fun σ' H' p' => ⟨xs.length - (i + 1), by omega, rfl, hlt, p'⟩, fun x H' y => ?_⟩
    obtain ⟨e, y⟩ := y
    subst e
    exact hs i x σ _ (y xs q) p
  · have e : i = xs.length := by omega
    subst e
    exact .inl ⟨⟨xs, q, Nat.le_refl _⟩, hd σ H p⟩
theorem for_tup {K : PySem.W.Frag} {a : Addr} {xs : List V} {g : TG} {tb : TS} {D : Ends} {σ : St} {H : Hp} (Pv : Nat → St → Hp → Prop) (h0 : Pv 0 σ H) (hl : ∀ i σ H, i ≤ xs.length → Pv i σ H → SqT K H a xs)
    (hs : ∀ i x σ H, xs[i]? = some x → Pv i σ H → g x σ H fun σ2 H2 => tb { D with nx := Pv (i + 1), ct := Pv (i + 1), bk := D.nx } σ2 H2) (hd : ∀ σ H, Pv xs.length σ H → D.nx σ H) :
    ∃ W : Nat → Nat → St → Hp → Prop, (∃ m, W 0 m σ H) ∧ ∀ i m σ H, W i m σ H →
      ((Itt K a).stop i H ∧ D.nx σ H) ∨ ((Itt K a).go i H ∧ ∃ N : St → Hp → Prop, (∀ σ' H', N σ' H' → ∃ m', m' < m ∧ W (i + 1) m' σ' H') ∧ ∀ x H', (Itt K a).yld i H x H' → g x σ H' fun σ2 H2 => tb { D with nx := N, ct := N, bk := D.nx } σ2 H2) := by
  refine ⟨fun i m σ H => m = xs.length - i ∧ i ≤ xs.length ∧ Pv i σ H, ⟨xs.length, by simp, Nat.zero_le _, h0⟩, ?_⟩
  rintro i m σ H ⟨rfl, hi, p⟩
  have q := hl i σ H hi p
  by_cases hlt : i < xs.length
  · refine .inr ⟨⟨xs, xs[i], q, by simp [hlt]⟩, Pv (i + 1), fun σ' H' p' => ⟨xs.length - (i + 1), by omega, rfl, hlt, p'⟩, fun x H' y => ?_⟩
    obtain ⟨e, y⟩ := y
    subst e
    exact hs i x σ _ (y xs q) p
  · have e : i = xs.length := by omega
    subst e
    exact .inl ⟨⟨xs, q, Nat.le_refl _⟩, hd σ H p⟩
theorem for_range {lo : Int} {n : Nat} {g : TG} {tb : TS} {D : Ends} {σ : St} {H : Hp} (Pv : Nat → St → Hp → Prop) (h0 : Pv 0 σ H)
    (hs : ∀ i σ H, i < n → Pv i σ H → g (.int (lo + i)) σ H fun σ2 H2 => tb { D with nx := Pv (i + 1), ct := Pv (i + 1), bk := D.nx } σ2 H2) (hd : ∀ σ H, Pv n σ H → D.nx σ H) :
    ∃ W : Nat → Nat → St → Hp → Prop, (∃ m, W 0 m σ H) ∧ ∀ i m σ H, W i m σ H →
      ((Itr lo n).stop i H ∧ D.nx σ H) ∨ ((Itr lo n).go i H ∧ ∃ N : St → Hp → Prop, (∀ σ' H', N σ' H' → ∃ m', m' < m ∧ W (i + 1) m' σ' H') ∧ ∀ x H', (Itr lo n).yld i H x H' → g x σ H' fun σ2 H2 => tb { D with nx := N, ct := N, bk := D.nx } σ2 H2) := by
  refine ⟨fun i m σ H => m = n - i ∧ i ≤ n ∧ Pv i σ H, ⟨n, by simp, Nat.zero_le _, h0⟩, ?_⟩
  rintro i m σ H ⟨rfl, hi, p⟩
  by_cases hlt : i < n
  · refine .inr ⟨hlt, Pv (i + 1), fun σ' H' p' => ⟨n - (i + 1), by omega, rfl, hlt, p'⟩, fun x H' y => ?_⟩
    obtain ⟨e, y⟩ := y
    subst e y
    exact hs i σ _ hlt p
  · have e : i = n := by omega
    subst e
    exact .inl ⟨Nat.le_refl _, hd σ H p⟩
/-- while, by a word and a measure of the state -/
theorem while_by {c : TT} {tb : TS} {D : Ends} {σ : St} {H : Hp} (Pv : St → Hp → Prop) (μ : St → Hp → Nat) (h0 : Pv σ H)
    (hs : ∀ σ H, Pv σ H → c σ H fun b H1 => if b = true then tb { D with nx := fun σ' H' => Pv σ' H' ∧ μ σ' H' < μ σ H, ct := fun σ' H' => Pv σ' H' ∧ μ σ' H' < μ σ H, bk := D.nx } σ H1 else D.nx σ H1)
    (mono : ∀ σ H Q Q', (∀ b H1, Q b H1 → Q' b H1) → c σ H Q → c σ H Q') : tWhile c tb D σ H := by
  refine ⟨fun m σ H => m = μ σ H ∧ Pv σ H, ⟨_, rfl, h0⟩, ?_⟩
  rintro m σ H ⟨rfl, p⟩
  refine mono σ H _ _ (fun b H1 q => ?_) (hs σ H p)
  cases b with
  | true => exact ⟨_, fun σ' H' ⟨p', l⟩ => ⟨_, l, rfl, p'⟩, q⟩
  | false => exact q
end L2

namespace L2
open PySem PySem.Spec PyProof.Rows

abbrev R2 := V → V → Hp → VK → Prop
/-- a two-place operation on values: f is binaryOp op, inplaceOp op or compareOp op -/
def OpR (X : Cx) (f : Value → Value → Sem Value) (r : R2) : Prop :=
  ∀ (pins : List (Addr × Obj)) (s : Shared) (σ : St) (H : Hp) (x y : V) (v u : Value) (Q : VK), Inv X pins σ H s → RelV x v → RelV y u → r x y H Q →
    wpAny (model X.prog X.w) X.A (f v u) (EP X pins σ Q) X.xe s
/-- a call of a value that is known (a builtin, a type) with values -/
def CallR (X : Cx) (f : Value) (r : List V → Hp → VK → Prop) : Prop :=
  ∀ (pins : List (Addr × Obj)) (s : Shared) (σ : St) (H : Hp) (xs : List V) (us : List Value) (Q : VK), Inv X pins σ H s → Vals xs us → r xs H Q →
    wpAny (model X.prog X.w) X.A (call f us) (EP X pins σ Q) X.xe s
def tOp (r : R2) (ta tb : TE) : TE := fun σ H Q => ta σ H fun x H1 => tb σ H1 fun y H2 => r x y H2 Q
/-- ints in, under C, and a value out -/
def rI (C : Int → Int → Prop) (g : Int → Int → V) : R2 := fun x y H Q => ∃ i j, x = .int i ∧ y = .int j ∧ C i j ∧ Q (g i j) H
def rI0 (g : Int → Int → V) : R2 := fun x y H Q => ∃ i j, x = .int i ∧ y = .int j ∧ Q (g i j) H
section
variable {X : Cx} {a b c : Expr} {ta tb tc : TE} {pos : Pos}

theorem binT (ha : PE X a ta) (hb : PE X b tb) {pins : List (Addr × Obj)} {s : Shared} {σ : St} {H : Hp} {R : V → V → Hp → Prop} (I : Inv X pins σ H s)
    (h : ta σ H fun x H1 => tb σ H1 fun y H2 => R x y H2) {Q : Value → Shared → Prop} {f : Value → Value → Sem Value}
    (hf : ∀ v u s2 x y H2, Inv X pins σ H2 s2 → RelV x v → RelV y u → R x y H2 → wpAny (model X.prog X.w) X.A (f v u) Q X.xe s2) :
    wpAny (model X.prog X.w) X.A (eval a X.env) (fun v s₁ => wpAny (model X.prog X.w) X.A (eval b X.env) (fun u s₂ => wpAny (model X.prog X.w) X.A (f v u) Q X.xe s₂) X.xe s₁) X.xe s := by
  refine thn (ha pins s σ H _ I h) fun v s1 ⟨x, H1, I1, r1, q1⟩ => ?_
  refine thn (hb pins s1 σ H1 _ I1 q1) fun u s2 ⟨y, H2, I2, r2, q2⟩ => ?_
  exact hf v u s2 x y H2 I2 r1 r2 q2

theorem pe_op {op : Operator} {r : R2} (ho : OpR X (binaryOp op) r) (ha : PE X a ta) (hb : PE X b tb) : PE X (.BinOp a op b pos) (tOp r ta tb) := by
  intro pins s σ H Q I h
  exact wpAny_BinOp (binT ha hb I h fun v u s2 x y H2 I2 rx ry q => ho pins s2 σ H2 x y v u Q I2 rx ry q)
theorem opI {f : Value → Value → Sem Value} {C : Int → Int → Prop} {g : Int → Int → Int}
    (rule : ∀ (i j : Int) (t u : Tok) (s : Shared) (Q : Value → Shared → Prop) (E : Value → Shared → Prop), C i j → Q (.int (g i j) s.toks) { s with toks := s.toks + 1 } → wpAny (model X.prog X.w) X.A (f (.int i t) (.int j u)) Q E s) :
    OpR X f (rI C fun i j => .int (g i j)) := by
  intro pins s σ H x y v u Q I rx ry h
  obtain ⟨i, j, rfl, rfl, hc, q⟩ := h
  obtain ⟨t, rfl⟩ := rx
  obtain ⟨t', rfl⟩ := ry
  exact rule i j t t' s _ _ hc ⟨.int (g i j), H, I.tok _, ⟨_, rfl⟩, q⟩
theorem opI0 {f : Value → Value → Sem Value} {g : Int → Int → Int}
    (rule : ∀ (i j : Int) (t u : Tok) (s : Shared) (Q : Value → Shared → Prop) (E : Value → Shared → Prop), Q (.int (g i j) s.toks) { s with toks := s.toks + 1 } → wpAny (model X.prog X.w) X.A (f (.int i t) (.int j u)) Q E s) :
    OpR X f (rI0 fun i j => .int (g i j)) := by
  intro pins s σ H x y v u Q I rx ry h
  obtain ⟨i, j, rfl, rfl, q⟩ := h
  obtain ⟨t, rfl⟩ := rx
  obtain ⟨t', rfl⟩ := ry
  exact rule i j t t' s _ _ ⟨.int (g i j), H, I.tok _, ⟨_, rfl⟩, q⟩
theorem opB0 {f : Value → Value → Sem Value} {g : Int → Int → Bool}
    (rule : ∀ (i j : Int) (t u : Tok) (s : Shared) (Q : Value → Shared → Prop) (E : Value → Shared → Prop), Q (.bool (g i j)) s → wpAny (model X.prog X.w) X.A (f (.int i t) (.int j u)) Q E s) :
    OpR X f (rI0 fun i j => .bl (g i j)) := by
  intro pins s σ H x y v u Q I rx ry h
  obtain ⟨i, j, rfl, rfl, q⟩ := h
  obtain ⟨t, rfl⟩ := rx
  obtain ⟨t', rfl⟩ := ry
  exact rule i j t t' s _ _ ⟨.bl (g i j), H, I, rfl, q⟩

def CDiv (i j : Int) : Prop := 0 < j ∧ j < 1073741824
def CMul (i j : Int) : Prop := (-(2 ^ 64) < i ∧ i < 2 ^ 64) ∨ (-(2 ^ 64) < j ∧ j < 2 ^ 64)
theorem CMul.ok {i j : Int} (h : CMul i j) : IntMulOk i j := by
  rcases h with ⟨h1, h2⟩ | ⟨h1, h2⟩
  · exact .of_left (intBits_le_64 h1 h2)
  · exact .of_right (intBits_le_64 h1 h2)
theorem op_add : OpR X (binaryOp .Add) (rI0 fun i j => .int (i + j)) := opI0 fun _ _ _ _ _ _ _ q => add_int q
theorem op_mul : OpR X (binaryOp .Mult) (rI CMul fun i j => .int (i * j)) := opI fun _ _ _ _ _ _ _ hc q => mul_int q hc.ok
/-- // by a positive divisor -/
theorem op_fdiv : OpR X (binaryOp .FloorDiv) (rI CDiv fun i j => .int (i / j)) := opI fun i j _ _ _ _ _ hc q => by
  have h1 : (0 : Int) < j := hc.1
  have h2 : j < 1073741824 := hc.2
  exact floordiv_int (by omega) (by rw [Int.fdiv_eq_ediv_of_nonneg i (by omega)]; exact q) (.inl (PyProof.noPylong_small (by omega)))
/-- % by a positive divisor of any size -/
theorem op_mod : OpR X (binaryOp .Mod) (rI (fun _ j => 0 < j) fun i j => .int (i % j)) := opI fun i j _ _ _ _ _ hc q => by
  have h1 : (0 : Int) < j := hc
  exact mod_int' (by omega) (by rw [Int.fmod_eq_emod_of_nonneg i (by omega)]; exact q)
end

/-- the scalars that == tells apart as data does -/
def scal : V → V → Bool
  | .non, .non => true | .non, .int _ => true | .int _, .non => true | .non, .bl _ => true | .bl _, .non => true | .non, .str _ => true | .str _, .non => true
  | .int _, .int _ => true | .bl _, .bl _ => true | .str _, .str _ => true | .byt _, .byt _ => true
  | .int _, .str _ => true | .str _, .int _ => true | .bl _, .str _ => true | .str _, .bl _ => true
  | _, _ => false
def rEq : R2 := fun x y H Q => scal x y = true ∧ Q (.bl (decide (x = y))) H
def rNe : R2 := fun x y H Q => scal x y = true ∧ Q (.bl (!decide (x = y))) H

theorem dec_int {i j : Int} : decide (V.int i = V.int j) = (i == j) := by
  rw [Bool.eq_iff_iff]
  simp
theorem dec_bl {i j : Bool} : decide (V.bl i = V.bl j) = (i == j) := by
  rw [Bool.eq_iff_iff]
  simp
theorem dec_str {i j : Str} : decide (V.str i = V.str j) = (i == j) := by
  rw [Bool.eq_iff_iff]
  simp
theorem dec_byt {i j : Array UInt8} : decide (V.byt i = V.byt j) = (i.toList == j.toList) := by
  rw [Bool.eq_iff_iff]
  cases i
  cases j
  simp

section
variable {X : Cx} {a b c : Expr} {ta tb tc : TE} {pos : Pos}
theorem fin_bl {pins : List (Addr × Obj)} {σ : St} {H : Hp} {s : Shared} {Q : VK} {k k' : Bool} (I : Inv X pins σ H s) (q : Q (.bl k) H) (e : k = k') : EP X pins σ Q (.bool k') s := by
  subst e
  exact ⟨.bl k, H, I, rfl, q⟩
theorem op_eq : OpR X (compareOp .Eq) rEq := by
  intro pins s σ H x y v u Q I rx ry h
  obtain ⟨hs, q⟩ := h
  cases x with
  | non =>
    cases rx
    cases y with
    | non => cases ry; exact PySem.EqNone.eq_none_none (fin_bl I q (by simp))
    | bl j => cases ry; exact PySem.EqNone.eq_none_bool (fin_bl I q (by simp))
    | int j => obtain ⟨t', rfl⟩ := ry; exact PySem.EqNone.eq_none_int (fin_bl I q (by simp))
    | str j => obtain ⟨t', rfl⟩ := ry; exact PySem.EqNone.eq_none_str (fin_bl I q (by simp))
    | _ => exact absurd (show false = true from hs) Bool.false_ne_true
  | bl i =>
    cases rx
    cases y with
    | non => cases ry; exact PySem.EqNone.eq_bool_none (fin_bl I q (by simp))
    | bl j => cases ry; exact eq_bool (fin_bl I q dec_bl)
    | str j => obtain ⟨t', rfl⟩ := ry; exact PySem.EqMixed.eq_bool_str (fin_bl I q (by simp))
    | _ => exact absurd (show false = true from hs) Bool.false_ne_true
  | int i =>
    obtain ⟨t, rfl⟩ := rx
    cases y with
    | non => cases ry; exact PySem.EqNone.eq_int_none (fin_bl I q (by simp))
    | int j => obtain ⟨t', rfl⟩ := ry; exact eq_int (fin_bl I q dec_int)
    | str j => obtain ⟨t', rfl⟩ := ry; exact PySem.EqMixed.eq_int_str (fin_bl I q (by simp))
    | _ => exact absurd (show false = true from hs) Bool.false_ne_true
  | str i =>
    obtain ⟨t, rfl⟩ := rx
    cases y with
    | non => cases ry; exact PySem.EqNone.eq_str_none (fin_bl I q (by simp))
    | bl j => cases ry; exact PySem.EqMixed.eq_str_bool (fin_bl I q (by simp))
    | int j => obtain ⟨t', rfl⟩ := ry; exact PySem.EqMixed.eq_str_int (fin_bl I q (by simp))
    | str j => obtain ⟨t', rfl⟩ := ry; exact eq_str (fin_bl I q dec_str)
    | _ => exact absurd (show false = true from hs) Bool.false_ne_true
  | byt i =>
    obtain ⟨t, rfl⟩ := rx
    cases y with
    | byt j => obtain ⟨t', rfl⟩ := ry; exact PySem.W.eq_bytes (fin_bl I q dec_byt)
    | _ => exact absurd (show false = true from hs) Bool.false_ne_true
  | _ => cases y <;> exact absurd (show false = true from hs) Bool.false_ne_true
theorem op_ne : OpR X (compareOp .NotEq) rNe := by
  intro pins s σ H x y v u Q I rx ry h
  obtain ⟨hs, q⟩ := h
  cases x with
  | non =>
    cases rx
    cases y with
    | non => cases ry; exact PySem.EqNone.ne_none_none (fin_bl I q (by simp))
    | bl j => cases ry; exact PySem.EqNone.ne_none_bool (fin_bl I q (by simp))
    | int j => obtain ⟨t', rfl⟩ := ry; exact PySem.EqNone.ne_none_int (fin_bl I q (by simp))
    | str j => obtain ⟨t', rfl⟩ := ry; exact PySem.EqNone.ne_none_str (fin_bl I q (by simp))
    | _ => exact absurd (show false = true from hs) Bool.false_ne_true
  | bl i =>
    cases rx
    cases y with
    | non => cases ry; exact PySem.EqNone.ne_bool_none (fin_bl I q (by simp))
    | bl j => cases ry; exact ne_bool (fin_bl I q (congrArg not dec_bl))
    | str j => obtain ⟨t', rfl⟩ := ry; exact PySem.EqMixed.ne_bool_str (fin_bl I q (by simp))
    | _ => exact absurd (show false = true from hs) Bool.false_ne_true
  | int i =>
    obtain ⟨t, rfl⟩ := rx
    cases y with
    | non => cases ry; exact PySem.EqNone.ne_int_none (fin_bl I q (by simp))
    | int j => obtain ⟨t', rfl⟩ := ry; exact ne_int (fin_bl I q (congrArg not dec_int))
    | str j => obtain ⟨t', rfl⟩ := ry; exact PySem.EqMixed.ne_int_str (fin_bl I q (by simp))
    | _ => exact absurd (show false = true from hs) Bool.false_ne_true
  | str i =>
    obtain ⟨t, rfl⟩ := rx
    cases y with
    | non => cases ry; exact PySem.EqNone.ne_str_none (fin_bl I q (by simp))
    | bl j => cases ry; exact PySem.EqMixed.ne_str_bool (fin_bl I q (by simp))
    | int j => obtain ⟨t', rfl⟩ := ry; exact PySem.EqMixed.ne_str_int (fin_bl I q (by simp))
    | str j => obtain ⟨t', rfl⟩ := ry; exact ne_str (fin_bl I q (congrArg not dec_str))
    | _ => exact absurd (show false = true from hs) Bool.false_ne_true
  | byt i =>
    obtain ⟨t, rfl⟩ := rx
    cases y with
    | byt j => obtain ⟨t', rfl⟩ := ry; exact PySem.W.ne_bytes (fin_bl I q (congrArg not dec_byt))
    | _ => exact absurd (show false = true from hs) Bool.false_ne_true
  | _ => cases y <;> exact absurd (show false = true from hs) Bool.false_ne_true

theorem op_lt : OpR X (compareOp .Lt) (rI0 fun i j => .bl (decide (i < j))) := opB0 fun _ _ _ _ _ _ _ q => lt_int q
theorem op_le : OpR X (compareOp .LtE) (rI0 fun i j => .bl (decide (i ≤ j))) := opB0 fun _ _ _ _ _ _ _ q => le_int q
theorem op_gt : OpR X (compareOp .Gt) (rI0 fun i j => .bl (decide (j < i))) := opB0 fun _ _ _ _ _ _ _ q => gt_int q
theorem op_ge : OpR X (compareOp .GtE) (rI0 fun i j => .bl (decide (j ≤ i))) := opB0 fun _ _ _ _ _ _ _ q => ge_int q
theorem nomark (b : Expr) {op : CmpOp} (h : op ≠ .In := by decide) (h2 : op ≠ .NotIn := by decide) : behindInMarks op b = false := by
  have e1 : (op == CmpOp.In) = false := by cases op <;> first | rfl | exact absurd rfl h
  have e2 : (op == CmpOp.NotIn) = false := by cases op <;> first | rfl | exact absurd rfl h2
  cases b <;> simp [behindInMarks, e1, e2]
/-- a comparison as a value; hm: nomark b, or (for in, not in) by with_unfolding_all rfl -/
theorem pe_cmpR {op : CmpOp} {r : R2} (ho : OpR X (compareOp op) r) (ha : PE X a ta) (hb : PE X b tb) (hm : behindInMarks op b = false) : PE X (.Compare a [op] [b] pos) (tOp r ta tb) := by
  intro pins s σ H Q I h
  exact wpAny_Compare1 (binT ha hb I h fun v u s2 x y H2 I2 rx ry q => ho pins s2 σ H2 x y v u Q I2 rx ry q) hm
/-- a reading of a value as a test -/
def tTest (t : TE) : TT := fun σ H Q => t σ H fun x H' => ∃ k, x = .bl k ∧ Q k H'
theorem pt_cmpR {op : CmpOp} {r : R2} (ho : OpR X (compareOp op) r) (ha : PE X a ta) (hb : PE X b tb) (hm : behindInMarks op b = false) : PT X (.Compare a [op] [b] pos) (tTest (tOp r ta tb)) := by
  intro pins s σ H Q I h
  refine wpAny_isTrue_Compare1 (thn (ha pins s σ H _ I h) fun v s1 ⟨x, H1, I1, r1, q1⟩ => thn (hb pins s1 σ H1 _ I1 q1) fun u s2 ⟨y, H2, I2, r2, q2⟩ =>
    thn (ho pins s2 σ H2 x y v u _ I2 r1 r2 q2) fun c s3 ⟨z, H3, I3, r3, k, e, q3⟩ => ?_) hm
  subst e
  cases r3
  exact wpAny_truthy_bool ⟨H3, I3, q3⟩
/-- a op1 b op2 c -/
def tChain (r r' : R2) (ta tb tc : TE) : TE := fun σ H Q => ta σ H fun x H1 => tb σ H1 fun y H2 => r x y H2 fun z H3 => ∃ k, z = .bl k ∧
  (if k = true then tc σ H3 fun w' H4 => r' y w' H4 Q else Q (.bl false) H3)
theorem pe_chain {op op' : CmpOp} {r r' : R2} (ho : OpR X (compareOp op) r) (ho' : OpR X (compareOp op') r') (ha : PE X a ta) (hb : PE X b tb) (hc : PE X c tc)
    (hm : lastMarks [op, op'] [b, c] = false := by with_unfolding_all rfl) : PE X (.Compare a [op, op'] [b, c] pos) (tChain r r' ta tb tc) := by
  intro pins s σ H Q I h
  refine Compare_chain (thn (ha pins s σ H _ I h) fun v s1 ⟨x, H1, I1, r1, q1⟩ => chain_link (thn (hb pins s1 σ H1 _ I1 q1) fun u s2 ⟨y, H2, I2, r2, q2⟩ =>
    thn (ho pins s2 σ H2 x y v u _ I2 r1 r2 q2) fun d s3 ⟨z, H3, I3, r3, k, e, q3⟩ => ?_)) hm
  subst e
  cases r3
  refine wpAny_truthy_bool ?_
  cases k with
  | false => exact ite_ff ⟨.bl false, H3, I3, rfl, q3⟩
  | true => exact ite_tt (chain_last (thn (hc pins s3 σ H3 _ I3 q3) fun w' s4 ⟨z', H4, I4, r4, q4⟩ => ho' pins s4 σ H4 y z' u w' Q I4 r2 r4 q4))
theorem line63 : (sizeLine : Nat) < 2 ^ 63 := by rw [sizeLine_eq]; decide
theorem op_add_str : OpR X (binaryOp .Add) (fun x y H Q => ∃ i j, x = .str i ∧ y = .str j ∧ i.length + j.length ≤ sizeLine ∧ Q (.str (i ++ j)) H) := by
  intro pins s σ H x y v u Q I rx ry h
  obtain ⟨i, j, rfl, rfl, hz, q⟩ := h
  obtain ⟨t, rfl⟩ := rx
  obtain ⟨t', rfl⟩ := ry
  exact add_str (fun t' tk => ⟨.str (i ++ j), H, I.tok _, ⟨_, rfl⟩, q⟩) hz
theorem vals1 {x : V} {us : List Value} (r : Vals [x] us) : ∃ u, us = [u] ∧ RelV x u := by
  cases r with
  | cons r1 r2 => cases r2; exact ⟨_, rfl, r1⟩
theorem vals2 {x y : V} {us : List Value} (r : Vals [x, y] us) : ∃ u w', us = [u, w'] ∧ RelV x u ∧ RelV y w' := by
  cases r with
  | cons r1 r2 =>
    cases r2 with
    | cons r3 r4 => cases r4; exact ⟨_, _, rfl, r1, r3⟩
end
end L2

namespace L2
open PySem PySem.Spec PyProof.Rows

structure ObjM (h : Heap) (x dx C : Addr) (mA : Str → Option Value) : Prop where
  obj : h.get? x = some (PySem.W.instObj C dx)
  ns : h.Ns1 dx mA
  ne : dx ≠ x

theorem lookIn_ns {h : Heap} {dx : Addr} {mA : Str → Option Value} (n : h.Ns1 dx mA) : ∃ od, h.get? dx = some od ∧ ∀ name, PySem.W.lookIn name od = some (mA name) := by
  obtain ⟨o, es, ep, ho, hd, hk, _, hm⟩ := n
  refine ⟨o, ho, fun name => ?_⟩
  have e := hm name
  unfold nsFind findBy at e
  rw [← Array.find?_toList] at e
  unfold PySem.W.lookIn
  rw [hd]
  dsimp only
  split
  · rename_i y q
    rw [q] at e
    exact congrArg some e
  · rename_i q
    rw [q] at e
    have a : es.toList.any (·.refKey) = false := by
      rw [List.any_eq_false]
      intro y hy
      obtain ⟨z, t, hkey⟩ := hk y (Array.mem_toList_iff.mp hy)
      simp [DictEntry.refKey, hkey]
    have a' : ¬ es.toList.any (·.refKey) = true := by rw [a]; exact Bool.false_ne_true
    rw [if_neg a']
    exact congrArg some e

theorem ObjM.look {h : Heap} {x dx C : Addr} {mA : Str → Option Value} (I : ObjM h x dx C mA) : ∃ od, PySem.W.InstAt h x (PySem.W.instObj C dx) C (some od) ∧ ∀ name, PySem.W.lookIn name od = some (mA name) :=
  let ⟨od, ho, hl⟩ := lookIn_ns I.ns
  ⟨od, ⟨I.obj, rfl, rfl, ho⟩, hl⟩

section
variable {prog : Program} {w : World} {A : Around} {E : Value → Shared → Prop} {s : Shared} {K : PySem.W.Frag} {x dx C f : Addr} {mA : Str → Option Value} {name : Str} {v : Value}

end

section
variable {P : Program} {w : World} {H H' : Hp} {h h' : Heap} {a C dx : Addr} {fs fs' : List (Str × V)}
theorem ins_get (hok : HOk P w H h) (e : H a = some (.ins C dx fs)) : ∃ mA, ObjM h a dx C mA ∧ (∀ f, RelO (fs.lookup f) (mA f)) ∧ PySem.Within mA (fs.map (·.1)) ∧ fs.length ≤ 1000 ∧ H dx = some (.own a) := by
  obtain ⟨d, z, ne, ob, mA, n, r, q⟩ := (show ObjOk P w H h a (.ins C dx fs) from hok a _ e)
  exact ⟨mA, ⟨ob, n, ne⟩, r, q, z, d⟩
end

structure Cls (K : PySem.W.Frag) (C : Addr) : Prop where
  pg : PySem.W.plainGet K C Str.empty = true
  hd : PySem.W.hasDictIn K C = true
  po : PySem.W.plainOver K C = true
  sa : PySem.W.findIn K (.ref C) "__setattr__" = some (some (.builtin "object.__setattr__"))
theorem Cls.get {K : PySem.W.Frag} {C : Addr} (c : Cls K C) (f : Str) : PySem.W.plainGet K C f = true := c.pg
section
variable {X : Cx} {pins : List (Addr × Obj)} {σ : St} {H : Hp} {s : Shared} {a C dx : Addr} {fs : List (Str × V)} {f : Str} {v : V} {A : Around} {E : Value → Shared → Prop}

end

section
variable {X : Cx} {o e value : Expr} {f : Str} {pos pos' tpos : Pos} {ta tv : TE}
end

section
variable {X : Cx} {pins : List (Addr × Obj)} {σ : St} {H : Hp} {s : Shared} {A : Around} {E : Value → Shared → Prop} {Q : Value → Shared → Prop} {c : Value} {b : Bool}
/-- the type of a value, as the fragment's deciders take it; for an instance its class -/
inductive TyOf (K : PySem.W.Frag) (H : Hp) : V → Value → Prop where
  | non : TyOf K H .non (.type "NoneType")
  | bl (x : Bool) : TyOf K H (.bl x) (.type "bool")
  | int (i : Int) : TyOf K H (.int i) (.type "int")
  | str (x : Str) : TyOf K H (.str x) (.type "str")
  | flt (x : UInt64) : TyOf K H (.flt x) (.type "float")
  | lst {a : Addr} {xs : List V} (e : H a = some (.lst xs)) : TyOf K H (.ref a) (.type "list")
  | frz {a : Addr} {o : Obj} {xs : List V} (e : H a = some (.frz o (.lst xs))) : TyOf K H (.ref a) (.type "list")
  | tup {a : Addr} {xs : List V} (e : H a = some (.tup xs)) : TyOf K H (.ref a) (.type "tuple")
  | dK {a : Addr} {kvs : List (Key × V)} (e : H a = some (.dK kvs)) : TyOf K H (.ref a) (.type "dict")
  | dT {a : Addr} {kvs : List (List Key × V)} (e : H a = some (.dT kvs)) : TyOf K H (.ref a) (.type "dict")
  | ins {a C dx : Addr} {fs : List (Str × V)} (e : H a = some (.ins C dx fs)) (cl : Cls K C) (ha : PySem.W.findIn K (.ref C) "__class__" = some (some (.builtin "object.__class__")))
      (hn : PySem.W.specialIn K (.builtin "object.__class__") "__get__" = some (some (.builtin "getset_descriptor.__get__"))) (htk : PySem.W.takesIn K (.builtin "object.__class__") = some true)
      (hm : PySem.W.mroIn K C (.type "object") = some true) : TyOf K H (.ref a) (.ref C)
/-- isinstance(x, c) for one class c, a built-in or an own one: kitOne's answer -/
theorem isinst_ok {x : V} {u t : Value} (I : Inv X pins σ H s) (rx : RelV x u) (ty : TyOf X.K H x t) (e : PySem.W.kitOne X.K t c = some b) (h : ∀ tk, Q (.bool b) { s with toks := tk }) :
    wpAny (model X.prog X.w) A (call (.builtin "isinstance") [u, c]) Q E s := by
  cases ty with
  | non => cases (show u = Value.none from rx); exact PySem.W.kia_one PySem.W.kitx_none I.kIn True.intro e (fun z => nomatch z) h
  | bl y => cases (show u = Value.bool y from rx); exact PySem.W.kia_one PySem.W.kitx_bool I.kIn True.intro e (fun z => nomatch z) h
  | int i => obtain ⟨t, q⟩ := (show ∃ t, u = Value.int i t from rx); cases q; exact PySem.W.kia_one PySem.W.kitx_int I.kIn True.intro e (fun z => nomatch z) h
  | str y => obtain ⟨t, q⟩ := (show ∃ t, u = Value.str y t from rx); cases q; exact PySem.W.kia_one PySem.W.kitx_str I.kIn True.intro e (fun z => nomatch z) h
  | flt y => obtain ⟨t, q⟩ := (show ∃ t, u = Value.float y t from rx); cases q; exact PySem.W.kia_one PySem.W.kitx_float I.kIn True.intro e (fun z => nomatch z) h
  | @lst a xs ea =>
    cases (show u = Value.ref a from rx)
    obtain ⟨_, _, n, _, h1⟩ := (show ObjOk X.prog X.w H s.heap a (.lst xs) from I.hok a _ ea)
    exact PySem.W.kia_one PySem.W.kitx_list I.kIn ⟨_, h1, rfl⟩ e (fun z => nomatch z) h
  | @frz a ob xs ea =>
    cases (show u = Value.ref a from rx)
    obtain ⟨_, _, _, n, _, h1⟩ := (show ObjOk X.prog X.w H s.heap a (.frz ob (.lst xs)) from I.hok a _ ea)
    exact PySem.W.kia_one PySem.W.kitx_list I.kIn ⟨_, h1, rfl⟩ e (fun z => nomatch z) h
  | @tup a xs ea =>
    cases (show u = Value.ref a from rx)
    obtain ⟨_, _, _, p⟩ := (show ObjOk X.prog X.w H s.heap a (.tup xs) from I.hok a _ ea)
    obtain ⟨o, h1, h2, _⟩ := p
    exact PySem.W.kia_one PySem.W.kitx_tuple I.kIn ⟨o, h1, h2⟩ e (fun z => nomatch z) h
  | @dK a kvs ea =>
    cases (show u = Value.ref a from rx)
    obtain ⟨_, _, vs, _, p⟩ := (show ObjOk X.prog X.w H s.heap a (.dK kvs) from I.hok a _ ea)
    obtain ⟨o, es, ep, h1, h2, _⟩ := p
    exact PySem.W.kia_one PySem.W.kitx_dict I.kIn ⟨o, h1, h2.1⟩ e (fun z => nomatch z) h
  | @dT a kvs ea =>
    cases (show u = Value.ref a from rx)
    obtain ⟨_, _, xs, _, o, es, ep, h1, h2, _⟩ := (show ObjOk X.prog X.w H s.heap a (.dT kvs) from I.hok a _ ea)
    exact PySem.W.kia_one PySem.W.kitx_dict I.kIn ⟨o, h1, h2.1⟩ e (fun z => nomatch z) h
  | @ins a C dx fs ea cl ha hn htk hm =>
    cases (show u = Value.ref a from rx)
    obtain ⟨mA, O, _⟩ := ins_get I.hok ea
    obtain ⟨od, J, _⟩ := O.look
    exact PySem.W.kia_one (PySem.W.kitx_own (cl.get _) cl.hd ha hn htk hm) I.kIn J e (fun z => nomatch z) h
end
end L2

namespace L2
open PySem PySem.Spec PyProof.Rows

structure Room (k : Nat) (A : Around) : Prop where
  hd : A.handled = none
  dp : A.depth + 3 * k + 5 < recursionLimit
  un : A.units + 16 * k + 200 < cLine
theorem Room.mono {j k : Nat} {A : Around} (r : Room k A) (h : j ≤ k) : Room j A := ⟨r.hd, by have := r.dp; omega, by have := r.un; omega⟩
theorem Room.deeper {k : Nat} {A : Around} (r : Room (k + 1) A) (env : Env) : Room k (A.deeper env) :=
  ⟨r.hd, by have := r.dp; show A.depth + 1 + 3 * k + 5 < _; omega, by have := r.un; show A.units + 3 + 16 * k + 200 < _; omega⟩
theorem Room.depth {k : Nat} {A : Around} (r : Room k A) : A.depth < recursionLimit := by have := r.dp; omega
theorem Room.units {k : Nat} {A : Around} (r : Room k A) : A.units + 64 < cLine := by have := r.un; omega
def tNil : TA := fun _ H Q => Q [] H
def tCons (ta : TE) (tr : TA) : TA := fun σ H Q => ta σ H fun x H1 => tr σ H1 fun xs H2 => Q (x :: xs) H2
section
variable {X : Cx} {e : Expr} {es : List Expr} {te : TE} {t : TA} {pos : Pos}
theorem pa_nil : PA X [] tNil := fun _ _ _ _ H Q I h => Calls.spliced_nil ⟨[], H, I, .nil, h⟩
theorem pa_cons (ha : PE X e te) (hr : PA X es t) (hs : starEach (e :: es) X.env = (false, eval e X.env) :: starEach es X.env := by rfl) : PA X (e :: es) (tCons te t) := by
  intro pos pins s σ H Q I h
  rw [hs]
  show wpAny _ _ (spliced ((false, eval e X.env) :: backTo pos (starEach es X.env))) _ _ s
  refine Calls.spliced_cons (thn (ha pins s σ H _ I h) fun u s1 ⟨x, H1, I1, r1, q1⟩ => ?_)
  exact thn (hr pos pins s1 σ H1 _ I1 q1) fun us s2 ⟨xs, H2, I2, r2, q2⟩ => ⟨x :: xs, H2, I2, .cons r1 r2, q2⟩

/-- a tuple, a list of written items -/
def tTup (t : TA) : TE := fun σ H Q => t σ H fun xs H1 => xs.length ≤ sizeLine ∧ ∀ p, H1 p = none → Q (.ref p) (upd H1 p (.tup xs))
def tLst (t : TA) : TE := fun σ H Q => t σ H fun xs H1 => xs.length ≤ sizeLine ∧ ∀ p, H1 p = none → Q (.ref p) (upd H1 p (.lst xs))
theorem pe_tup {x1} (h : PA X es t) : PE X (.Tuple es x1 pos) (tTup t) := by
  intro pins s σ H Q I hq
  refine wpAny_Tuple_spliced (thn (h pos pins s σ H _ I hq) fun us s1 ⟨xs, H1, I1, r, z, q⟩ => ⟨by rw [← r.length]; exact z, ?_⟩)
  have hf : H1 s1.heap.objs.size = none := I1.hok.fresh (Nat.le_refl _)
  refine ⟨.ref s1.heap.objs.size, upd H1 s1.heap.objs.size (.tup xs), I1.laid (t' := s1.toks) (fun b u e => Heap.get?_push_of_some _ e) (Nat.le_refl _) ?_, rfl, q _ hf⟩
  exact ⟨⟨z, _, Heap.get?_push_size _ rfl, rfl⟩, us, r, ⟨_, Heap.get?_push_size _ rfl, rfl, _, rfl⟩⟩
theorem pe_lst (h : PA X es t) : PE X (.List es pos) (tLst t) := by
  intro pins s σ H Q I hq
  refine wpAny_List_spliced (thn (h pos pins s σ H _ I hq) fun us s1 ⟨xs, H1, I1, r, z, q⟩ => ⟨by rw [← r.length]; exact z, ?_⟩)
  have hf : H1 s1.heap.objs.size = none := I1.hok.fresh (Nat.le_refl _)
  refine ⟨.ref s1.heap.objs.size, upd H1 s1.heap.objs.size (.lst xs), I1.laid (t' := s1.toks) (fun b u e => Heap.get?_push_of_some _ e) (Nat.le_refl _) ?_, rfl, q _ hf⟩
  exact ⟨z, us, 0, r, Heap.get?_push_size _ rfl⟩
end

/-- a def's promise: the bound arguments in the parameters' order, the heap, the wanted end, the wanted exception -/
abbrev Sp := List V → Hp → VK → XK → Prop
/-- how an exception lies behind a call (file 08 gives it): the callers' frames, abstract heap and state ahead of the call, the wish, the exception, the state -/
abbrev CXT := List Env → Hp → Shared → XK → Value → Shared → Prop

/-- the state at a call -/
structure Env0 (P : Program) (w : World) (K : PySem.W.Frag) (mg : Str → Option Value) (base : Heap) (A : Around) (outer : List Env) (s : Shared) (H : Hp) : Prop where
  frames : A.frames = some outer
  mod : Mod K mg base
  bs : ∀ b o, base.get? b = some o → s.heap.get? b = some o ∧ H b = none
  bsz : base.objs.size ≤ s.heap.objs.size
  funs : s.heap.FunFrames base outer
  frf : ∀ b ∈ frs outer, H b = none
  hok : HOk P w H s.heap
  bare : AllBare s.gens
/-- a call's end -/
def CE (outer : List Env) (P : Program) (w : World) (H : Hp) (s : Shared) (Q : VK) (u : Value) (s' : Shared) : Prop :=
  ∃ v H', s'.os = s.os ∧ AllBare s'.gens ∧ Un (frs outer) [] H H' s.heap s'.heap ∧ HOk P w H' s'.heap ∧ RelV v u ∧ Q v H'
def CR (CX : CXT) (outer : List Env) (P : Program) (w : World) (H : Hp) (s : Shared) (Q : VK) (E : XK) (r : Result) (s' : Shared) : Prop :=
  match r with
  | .ok (.ret u) => CE outer P w H s Q u s'
  | .ok _ => False
  | .error e => CX outer H s E e s'
structure FnOk (P : Program) (w : World) (K : PySem.W.Frag) (mg : Str → Option Value) (base : Heap) (CX : CXT) (k : Nat) (f : Addr) (fd : FuncData) (ps : List Str) (sp : Sp) : Prop where
  len : ∀ vs H Q E, sp vs H Q E → vs.length = ps.length
  run : ∀ (A : Around) (outer : List Env) (s : Shared) (H : Hp) (args : Args) (us : List Value) (vs : List V) (Q : VK) (E : XK), Room k A → Env0 P w K mg base A outer s H → BindsTo s fd args (ps.zip us) → Vals vs us → sp vs H Q E →
    codeAny (model P w) A (.call (.ref f) args) (CR CX outer P w H s Q E) s
section
variable {X : Cx} {pins : List (Addr × Obj)} {σ : St} {H : Hp} {s s' : Shared}
/-- from a body: what a callee wants -/
theorem Inv.env0 (I : Inv X pins σ H s) : Env0 X.prog X.w X.K X.mg X.base X.A X.stack s H :=
  ⟨I.ok.frames, I.ok.mod, I.bs, Nat.le_trans I.ok.bsz I.sz, I.stack, I.stkFree, I.hok, I.bare⟩
/-- behind a call -/
theorem Inv.after {Q : VK} {u : Value} (I : Inv X pins σ H s) (h : CE X.stack X.prog X.w H s Q u s') : EP X pins σ Q u s' := by
  obtain ⟨v, H', os, bare, un, hok, r, q⟩ := h
  obtain ⟨hh, g, d, t, os'⟩ := s'
  obtain rfl : os' = s.os := os
  exact ⟨v, H', I.call (h' := hh) (g' := g) (d' := d) (t' := t) (ch := []) un hok bare (fun b z => absurd z (by simp)), r, q⟩
end

/-- f(..): the written arguments, then the defaults dvs; E: what is wanted of an exception -/
def tCall (sp : Sp) (dvs : List V) (E : XK) (t : TA) : TE := fun σ H Q => t σ H fun vs H1 => sp (vs ++ dvs) H1 Q E
/-- how the parameters are bound: us the positional arguments, kw the keywords' values by name, ds the defaults that fill up -/
def Binds (K : PySem.W.Frag) (fd : FuncData) (ps : List Str) (ds : List Value) : Prop :=
  ∀ (s : Shared) (us : List Value), K.In s.heap → (us ++ ds).length = ps.length → BindsTo s fd ⟨us, []⟩ (ps.zip (us ++ ds))
/-- every parameter is given -/
theorem Binds.all {K : PySem.W.Frag} {fd : FuncData} {ps : List Str} (h : ∀ us : List Value, us.length = ps.length → bindArgs fd ⟨us, []⟩ = pure (ps.zip us)) : Binds K fd ps [] := fun s us _ hl => by
  rw [List.append_nil] at hl ⊢
  exact .of_eq (h us hl)

/-- an exception of a callee reaches what this body wants of exceptions -/
def Passes (CX : CXT) (X : Cx) (E : XK) : Prop := ∀ (pins : List (Addr × Obj)) (σ : St) (H : Hp) (s : Shared) (e : Value) (s' : Shared), Inv X pins σ H s → CX X.stack H s E e s' → X.xe e s'

section
variable {X : Cx} {CX : CXT} {k : Nat} {f C : Addr} {fd : FuncData} {ps : List Str} {sp : Sp} {dvs : List V} {ds : List Value} {E : XK} {x m : Str} {p pos apos : Pos} {e o : Expr} {es : List Expr} {ta : TE} {t : TA}

/-- the callee runs -/
theorem run_fn {pins : List (Addr × Obj)} {σ : St} {H : Hp} {s : Shared} {Q : VK} {us : List Value} {vs : List V} (F : FnOk X.prog X.w X.K X.mg X.base CX k f fd ps sp) (hr : Room k X.A) (hb : Binds X.K fd ps ds) (hd : Vals dvs ds) (hx : Passes CX X E)
    (I : Inv X pins σ H s) (r : Vals vs us) (h : sp (vs ++ dvs) H Q E) : wpAny (model X.prog X.w) X.A (call (.ref f) us) (EP X pins σ Q) X.xe s := by
  have r2 : Vals (vs ++ dvs) (us ++ ds) := r.append hd
  have hl : (us ++ ds).length = ps.length := by rw [← r2.length]; exact F.len _ _ _ _ h
  refine wpAny_call (codeAny_mono (F.run X.A X.stack s H ⟨us, []⟩ (us ++ ds) (vs ++ dvs) Q E hr I.env0 (hb s us I.kIn hl) r2 h) fun r s' hq => ?_)
  cases r with
  | error e => exact hx pins σ H s e s' I hq
  | ok fl =>
    cases fl with
    | ret u => exact I.after hq
    | next => exact False.elim hq
    | brk => exact False.elim hq
    | cont => exact False.elim hq

theorem pe_call (F : FnOk X.prog X.w X.K X.mg X.base CX k f fd ps sp) (hr : Room k X.A) (hg : Gl X x) (hm : X.mg x = some (.ref f)) (hk : PySem.W.keepIn X.K (.ref f) = true) (hb : Binds X.K fd ps ds) (hd : Vals dvs ds) (hx : Passes CX X E)
    (ha : PA X (e :: es) t) (hdb : (x == ("__debug__" : Str)) = false := by decide) (he : starEach (e :: es) X.env = (false, eval e X.env) :: starEach es X.env := by rfl) (hpl : (backTo pos (starEach es X.env)).any (·.1) = false := by rfl) :
    PE X (.Call (.Name x p) (e :: es) [] pos) (tCall sp dvs E t) := by
  intro pins s σ H Q I h
  refine wpAny_Call_Name_kw (ld_glob I hg hm ?_ hdb)
  refine PySem.W.callWith_K (h₀ := X.base) I.ok.mod.kin hk (thn (ha pos pins s σ H _ I h) fun us s1 ⟨vs, H1, I1, r, q⟩ => ⟨I1.kIn, ?_⟩) he hpl
  exact run_fn F hr hb hd hx I1 r q
end

section
variable {X : Cx} {CX : CXT} {k : Nat} {f C : Addr} {fd : FuncData} {ps ks : List Str} {sp : Sp} {E : XK} {x m : Str} {p pos apos kpos : Pos} {e o : Expr} {es : List Expr} {kws : List Keyword} {te ta : TE} {t tk : TA} {nm : Option Str}
variable {g : List Value → List Value → List Value} {gV : List V → List V → List V}
end

/-- names: the parameters first -/
structure FnScope (N P : List Str) (sc : Scope) : Prop where
  kind : sc.kind = .function
  co : sc.isCoroutine = false
  gen : sc.isGenerator = false
  nd : N.Nodup
  pre : N.take P.length = P
  par : ∀ x ∈ P, sc.names.lookup x = some .local ∨ sc.names.lookup x = some .cell
  nofree : ∀ y ∈ sc.names, y.2 ≠ .free

theorem bindL_out {kindOf : Str → Option NameKind} {x : Str} : ∀ {binds : List (Str × Value)} {m : Str → Option Value}, (∀ v, (x, v) ∉ binds) → bindL kindOf binds m x = m x
  | [], _, _ => rfl
  | (n, v) :: r, m, h => by
    unfold bindL
    rw [bindL_out fun w hw => h w (List.mem_cons_of_mem _ hw)]
    split
    · have : x ≠ n := by rintro rfl; exact h v List.mem_cons_self
      simp [this]
    · rfl
theorem bindC_out {kindOf : Str → Option NameKind} {x : Str} : ∀ {binds : List (Str × Value)} {m : Str → Option Value}, (∀ v, (x, v) ∉ binds) → bindC kindOf binds m x = m x
  | [], _, _ => rfl
  | (n, v) :: r, m, h => by
    unfold bindC
    rw [bindC_out fun w hw => h w (List.mem_cons_of_mem _ hw)]
    split
    · rfl
    · have : x ≠ n := by rintro rfl; exact h v List.mem_cons_self
      simp [this]
theorem bindL_get {kindOf : Str → Option NameKind} {x : Str} {v : Value} : ∀ {P : List Str} {vs : List Value} {i : Nat} {m : Str → Option Value}, P.Nodup → P[i]? = some x → vs[i]? = some v → kindOf x = some .local →
    bindL kindOf (P.zip vs) m x = some v
  | [], _, _, _, _, h, _, _ => by simp at h
  | _ :: _, [], _, _, _, _, h, _ => by simp at h
  | p :: P, w :: vs, 0, m, nd, h1, h2, hk => by
    simp at h1 h2; subst h1; subst h2
    show bindL kindOf ((p, w) :: P.zip vs) m p = _
    unfold bindL
    rw [bindL_out fun v hv => (List.nodup_cons.mp nd).1 (List.of_mem_zip hv).1, if_pos hk]
    simp
  | p :: P, w :: vs, i + 1, m, nd, h1, h2, hk => by
    show bindL kindOf ((p, w) :: P.zip vs) m x = _
    unfold bindL
    exact bindL_get (i := i) (List.nodup_cons.mp nd).2 (by simpa using h1) (by simpa using h2) hk
theorem bindC_get {kindOf : Str → Option NameKind} {x : Str} {v : Value} : ∀ {P : List Str} {vs : List Value} {i : Nat} {m : Str → Option Value}, P.Nodup → P[i]? = some x → vs[i]? = some v → kindOf x ≠ some .local →
    bindC kindOf (P.zip vs) m x = some v
  | [], _, _, _, _, h, _, _ => by simp at h
  | _ :: _, [], _, _, _, _, h, _ => by simp at h
  | p :: P, w :: vs, 0, m, nd, h1, h2, hk => by
    simp at h1 h2; subst h1; subst h2
    show bindC kindOf ((p, w) :: P.zip vs) m p = _
    unfold bindC
    rw [bindC_out fun v hv => (List.nodup_cons.mp nd).1 (List.of_mem_zip hv).1, if_neg hk]
    simp
  | p :: P, w :: vs, i + 1, m, nd, h1, h2, hk => by
    show bindC kindOf ((p, w) :: P.zip vs) m x = _
    unfold bindC
    exact bindC_get (i := i) (List.nodup_cons.mp nd).2 (by simpa using h1) (by simpa using h2) hk

/-- the names' values at the entry -/
def start (N : List Str) (vs : List V) : St := vs.map some ++ List.replicate (N.length - vs.length) none

/-- the context of a def's body, at its entry; an exception leaves the frame, then lies as CX says -/
def cxOf (CX : CXT) (P : Program) (w : World) (K : PySem.W.Frag) (mg : Str → Option Value) (base : Heap) (N : List Str) (qual : Str) (scope : Scope) (f : Addr) (cd : Value) (A : Around) (outer : List Env) (s : Shared) (H : Hp) (E : XK) : Cx where
  prog := P
  w := w
  K := K
  mg := mg
  base := base
  A := A.deeper (envOfC qual scope s.heap.objs.size f cd)
  N := N
  s₀ := s
  H₀ := H
  env := envOfC qual scope s.heap.objs.size f cd
  outer := outer
  stack := envOfC qual scope s.heap.objs.size f cd :: outer
  ex := []
  calm := true
  fn := fun _ => true
  pn := []
  xe := fun e s' => wpAny (model P w) (A.deeper (envOfC qual scope s.heap.objs.size f cd)) (leaving (envOfC qual scope s.heap.objs.size f cd) e) (fun _ s'' => CX outer H s E e s'') (fun e' s'' => CX outer H s E e' s'') s'

theorem cell_has {sc : Scope} {n : Nat} {x : Str} (h : sc.names.lookup x = some .cell) : ∃ c, (cellsFrom n sc.names []).lookup x = some c := by
  have q := PySem.W.cellsFrom_some sc.names n [] (.inl h)
  exact Option.isSome_iff_exists.mp q

theorem inv_start {CX : CXT} {P : Program} {w : World} {K : PySem.W.Frag} {mg : Str → Option Value} {base : Heap} {N ps : List Str} {qual : Str} {scope : Scope} {f : Addr} {cd : Value} {A : Around} {outer : List Env} {s s1 : Shared} {H : Hp} {E : XK} {us : List Value} {vs : List V}
    (S : FnScope N ps scope) (hd : A.handled = none) (e0 : Env0 P w K mg base A outer s H) (hl : vs.length = ps.length) (r : Vals vs us)
    (x : InCallC s s.heap.objs.size (bindL (envOfC qual scope s.heap.objs.size f cd).kindOf (ps.zip us) fun _ => none) (cellsFrom (s.heap.objs.size + 1) scope.names []) (bindC (envOfC qual scope s.heap.objs.size f cd).kindOf (ps.zip us) fun _ => none) s1) :
    Inv (cxOf CX P w K mg base N qual scope f cd A outer s H E) [] (start N vs) H s1 := by
  have hpl : ps.length ≤ N.length := by have := congrArg List.length S.pre; rw [List.length_take] at this; omega
  obtain ⟨h1, tk, rfl, hk⟩ := x.done
  have noA : ∀ b : Addr, b ∉ (cxOf CX P w K mg base N qual scope f cd A outer s H E).ex := fun b z => absurd (show b ∈ ([] : List Addr) from z) (by simp)
  refine ⟨⟨e0.mod, S.kind, rfl, rfl, Nat.le_refl _, fun y z c h1 h2 => ?_, fun y hy => ?_, fun y c _ h => ?_, fun _ => hd, Around.frames_deeper e0.frames, .inr ⟨rfl, rfl⟩, fun b z => absurd z (noA b), e0.bs, e0.bsz, fun b _ _ => noA b, fun b z => absurd z (noA b), e0.funs, e0.frf⟩,
    rfl, e0.bare, Un.kept hk, ⟨_, x.toInCall.ns, fun i y v h1 h2 h3 => ?_⟩, fun y c h => ⟨_, x.cell y c h⟩, e0.hok.fresh (Nat.le_refl _), fun y c h => ?_, fun p hp => absurd (show p ∈ ([] : List (Addr × Obj)) from hp) (by simp), e0.hok.kept hk, ?_⟩
  · exact name_of_addr x.apart (PySem.mem_of_lookup h1) (PySem.mem_of_lookup h2)
  · have hy : scope.names.lookup y = some .cell ∨ scope.names.lookup y = some .free := hy
    rcases hy with hy | hy
    · exact cell_has hy
    · exact absurd rfl (S.nofree _ (PySem.mem_of_lookup hy))
  · exact Nat.le_of_lt (x.above y c (PySem.mem_of_lookup h))
  · have hi : i < vs.length := by
      unfold start at h2
      by_cases hi : i < vs.length
      · exact hi
      · rw [List.getElem?_append_right (by simpa using hi)] at h2
        rw [List.getElem?_replicate] at h2
        split at h2 <;> cases h2
    have ha : vs[i]? = some v := by
      unfold start at h2
      rw [List.getElem?_append_left (by simpa using hi), List.getElem?_map] at h2
      cases e : vs[i]? with
      | none => rw [e] at h2; cases h2
      | some a => rw [e] at h2; cases h2; rfl
    obtain ⟨u, hu, rv⟩ := r.get ha
    have hp : ps[i]? = some y := by
      rw [← S.pre, List.getElem?_take_of_lt (by omega)]; exact h1
    have ndP : ps.Nodup := by rw [← S.pre]; exact S.nd.sublist (List.take_sublist _ _)
    refine ⟨u, rv, ?_⟩
    rcases S.par y (List.mem_of_getElem? hp) with k | k
    · exact .inl ⟨k, bindL_get ndP hp hu k⟩
    · obtain ⟨c, e⟩ := cell_has (n := s.heap.objs.size + 1) k
      refine .inr ⟨.inl k, c, e, ?_⟩
      have q := x.cell y c e
      rw [bindC_get ndP hp hu (by show scope.names.lookup y ≠ _; rw [k]; decide)] at q
      exact q
  · exact e0.hok.fresh (Nat.le_of_lt (x.above y c (PySem.mem_of_lookup h)))
  · unfold start
    show _ = N.length
    rw [List.length_append, List.length_map, List.length_replicate]
    omega

/-- THE RULE: a def (or a method) of the text, by its body. The body's reading t is chosen for each entry; it is run at the parameters' values -/
theorem fn_of {CX : CXT} {P : Program} {w : World} {K : PySem.W.Frag} {mg : Str → Option Value} {base : Heap} {k : Nat} {f : Addr} {name qual : Str} {params : Arguments} {body : List Stmt} {scope : Scope} {dV kV doc pm cdv ct oc : Value} {an od : Option Addr}
    {osl : Array (Option Value)} {N ps : List Str} {sp : Sp} (lk : K.lookup f = some ⟨oc, od, .func (PySem.W.fnOf name qual params body scope dV kV doc pm an cdv ct), osl⟩) (hcd : PySem.W.codeIn K cdv qual = true) (S : FnScope N ps scope)
    (len : ∀ vs H Q E, sp vs H Q E → vs.length = ps.length)
    (hbody : ∀ (A : Around) (outer : List Env) (s : Shared) (H : Hp) (vs : List V) (Q : VK) (E : XK), Room k (A.deeper (envOfC qual scope s.heap.objs.size f cdv)) → sp vs H Q E →
      ∃ t, PSs (cxOf CX P w K mg base N qual scope f cdv A outer s H E) body t ∧ t { nx := fun _ H' => Q .non H', rt := Q } (start N vs) H) :
    FnOk P w K mg base CX (k + 1) f (PySem.W.fnOf name qual params body scope dV kV doc pm an cdv ct) ps sp := by
  refine ⟨len, fun A outer s H args us vs Q E hr e0 hb r hsp => ?_⟩
  have hl := len _ _ _ _ hsp
  have KX : K.In s.heap := e0.mod.kin.keeps fun b o e => (e0.bs b o e).1
  have lim : s.heap.NoLimit := e0.mod.nolimit.keeps fun b o e => (e0.bs b o e).1
  have hkind : ∀ y ∈ ps.zip us, scope.names.lookup y.1 = some .local ∨ (scope.names.lookup y.1 = some .cell ∧ ((cellsFrom (s.heap.objs.size + 1) scope.names []).lookup y.1).isSome = true) := fun ⟨n, v⟩ hy => by
    rcases S.par n (List.of_mem_zip hy).1 with q | q
    · exact .inl q
    · exact .inr ⟨q, PySem.W.cellsFrom_some _ _ _ (.inl q)⟩
  refine codeAny_call_function hr.depth (KX _ _ lk) rfl S.co S.gen rfl (PySem.W.codeRec_of KX hcd) (hb _ _ _ _ ?_)
  refine wpAny_newFunctionEnv_cells S.kind hkind fun env he s1 x => ?_
  subst he
  refine ⟨lim.keeps x.toInCall.keep, codeAny_func ?_⟩
  obtain ⟨t, ht, hq⟩ := hbody A outer s H vs Q E (hr.deeper _) hsp
  have I : Inv (cxOf CX P w K mg base N qual scope f cdv A outer s H E) [] (start N vs) H s1 := inv_start S hr.hd e0 hl r x
  refine wpAny_mono (ht [] s1 (start N vs) H _ I hq) (fun fl s' hs => ?_) fun e s' hs => hs
  have fin : ∀ {σ' : St} {H' : Hp} {v : V} {u : Value}, Inv (cxOf CX P w K mg base N qual scope f cdv A outer s H E) [] σ' H' s' → RelV v u → Q v H' → CE outer P w H s Q u s' :=
    fun {σ' H' v u} J rv q => ⟨v, H', J.os, J.bare, J.base, J.hok, rv, q⟩
  cases fl with
  | ret u =>
    obtain ⟨v, σ', H', J, rv, q⟩ := hs
    exact fin J rv q
  | next =>
    obtain ⟨σ', H', J, q⟩ := hs
    exact fin (v := V.non) (u := Value.none) J rfl q
  | brk =>
    obtain ⟨_, _, _, q⟩ := hs
    exact False.elim q
  | cont =>
    obtain ⟨_, _, _, q⟩ := hs
    exact False.elim q
end L2

namespace L2
open PySem PySem.Spec PyProof.Rows
section
variable {X : Cx} {x : Str} {p pos : Pos} {e : Expr} {es : List Expr} {t : TA} {id T : String} {r : List V → Hp → VK → Prop}

def tCB (r : List V → Hp → VK → Prop) (t : TA) : TE := fun σ H Q => t σ H fun vs H1 => r vs H1 Q
/-- f(e, ..), f a built-in function -/
theorem pe_callB (hc : CallR X (.builtin id) r) (hg : Gl X x) (hm : X.mg x = none) (hv : bootBuiltins x = some (.builtin id)) (ha : PA X (e :: es) t) (hn : x ≠ "__name__" := by decide) (hdb : (x == ("__debug__" : Str)) = false := by decide)
    (he : starEach (e :: es) X.env = (false, eval e X.env) :: starEach es X.env := by rfl) (hpl : (backTo pos (starEach es X.env)).any (·.1) = false := by rfl) : PE X (.Call (.Name x p) (e :: es) [] pos) (tCB r t) := by
  intro pins s σ H Q I h
  refine wpAny_Call_Name_kw (ld_blt I hg hm hv ?_ hn hdb)
  exact PyProof.Rows.callWith_builtin1 (thn (ha pos pins s σ H _ I h) fun us s1 ⟨vs, H1, I1, r1, q1⟩ => hc pins s1 σ H1 vs us Q I1 r1 q1) he hpl
/-- T(e, ..), T a built-in type -/
theorem pe_callTy (hc : CallR X (.type T) r) (hg : Gl X x) (hm : X.mg x = none) (hv : bootBuiltins x = some (.type T)) (ha : PA X (e :: es) t) (hn : x ≠ "__name__" := by decide) (hdb : (x == ("__debug__" : Str)) = false := by decide)
    (he : starEach (e :: es) X.env = (false, eval e X.env) :: starEach es X.env := by rfl) (hpl : (backTo pos (starEach es X.env)).any (·.1) = false := by rfl) : PE X (.Call (.Name x p) (e :: es) [] pos) (tCB r t) := by
  intro pins s σ H Q I h
  refine wpAny_Call_Name_kw (ld_blt I hg hm hv ?_ hn hdb)
  exact PyProof.Rows.callWith_type1 (thn (ha pos pins s σ H _ I h) fun us s1 ⟨vs, H1, I1, r1, q1⟩ => hc pins s1 σ H1 vs us Q I1 r1 q1) he hpl
end
end L2

namespace HT
open PySem PyProof.Rows

/-- t < u of tuples of ints -/
def lexLt : List Int → List Int → Bool
  | [], [] => false
  | [], _ :: _ => true
  | _ :: _, [] => false
  | x :: xs, y :: ys => if x = y then lexLt xs ys else decide (x < y)
theorem lexLt_cons (x y : Int) (xs ys : List Int) : lexLt (x :: xs) (y :: ys) = if x = y then lexLt xs ys else decide (x < y) := rfl
theorem lexLt_nil_nil : lexLt [] [] = false := rfl
theorem lexLt_nil_cons (y : Int) (ys : List Int) : lexLt [] (y :: ys) = true := rfl
theorem lexLt_cons_nil (x : Int) (xs : List Int) : lexLt (x :: xs) [] = false := rfl

theorem eqAt_int (A : Around) (s : Shared) (a : Int) (t : Tok) (c : Int) (u : Tok) : ∃ e, SeqAt.EqAt A s (.int a t) (.int c u) e ∧ (e = true ↔ a = c) :=
  ⟨(a == c), SeqAt.EqAt.int_int a t c u, by simp⟩
theorem rcLt_int (A : Around) (s : Shared) (a : Int) (t : Tok) (c : Int) (u : Tok) (prog : Program) (w : World) (E : Value → Shared → Prop) (Q : Value → Shared → Prop) (h : Q (.bool (decide (a < c))) s) :
    wpAny (model prog w) A (richCompare .Lt (.int a t) (.int c u)) Q E s :=
  (PyProof.Rows.lt_int h : wpAny (model prog w) A (compareOp .Lt (.int a t) (.int c u)) Q E s)

section
open PySem.SeqAt
open PySem.AutoSeq1 (wpAny_loadPart')
open PySem.MeetsSeq PySem.MeetsSeq2 PySem.MeetsSeq3

end

section
variable {prog : Program} {w : World} {A : Around} {E : Value → Shared → Prop} {s : Shared}

/-- a slice's bound as a place among n (d where it is left out) -/
def sIx (n d : Nat) : Option Int → Nat
  | none => d
  | some v => if v < 0 then (v + (n : Int)).toNat else min v.toNat n
end
end HT

namespace L2
open PySem PySem.Spec PyProof.Rows

abbrev TO := St → Hp → (Option Int → Hp → Prop) → Prop
/-- a slice's part (left out, or an int) -/
def PO (X : Cx) (e : Option Expr) (t : TO) : Prop :=
  ∀ (pins : List (Addr × Obj)) (s : Shared) (σ : St) (H : Hp) (Q : Option Int → Hp → Prop), Inv X pins σ H s → t σ H Q →
    wpAny (model X.prog X.w) X.A (evalPart e X.env) (fun u s' => ∃ o H', Inv X pins σ H' s' ∧ IsPart u o ∧ Q o H') X.xe s
def tPart (t : TE) : TO := fun σ H Q => t σ H fun x H1 => ∃ i, x = .int i ∧ Q (some i) H1

theorem intsAre_of {ns : List Int} : ∀ {us : List Value}, Vals (ns.map V.int) us → IntsAre us ns := by
  induction ns with
  | nil => intro us r; rw [List.map_nil] at r; cases r; exact .nil
  | cons n ns ih =>
    intro us r
    rw [List.map_cons] at r
    cases r with
    | cons r1 r2 =>
      obtain ⟨t, e⟩ := r1
      subst e
      exact .cons n t (ih r2)

section
variable {X : Cx} {e : Expr} {te : TE} {lo hi : Option Expr} {tl th : TO} {pos p2 : Pos}

theorem po_some (h : PE X e te) : PO X (some e) (tPart te) := by
  intro pins s σ H Q I hw
  rw [evalPart_some]
  refine thn (h pins s σ H _ I hw) fun u s1 ⟨x, H1, I1, r1, q1⟩ => ?_
  obtain ⟨i, rfl, q⟩ := q1
  obtain ⟨t, rfl⟩ := r1
  exact ⟨some i, H1, I1, .int i t, q⟩

/-- what a slice of a value is, by values: the slice object stands at sl -/
def SlR (X : Cx) (r : V → Option Int → Option Int → Hp → VK → Prop) : Prop :=
  ∀ (pins : List (Addr × Obj)) (s : Shared) (σ : St) (H : Hp) (x : V) (v vl vu : Value) (lo hi : Option Int) (sl : Addr) (Q : VK), Inv X pins σ H s → RelV x v → s.heap.IsSliceOf sl vl vu .none → IsPart vl lo → IsPart vu hi → r x lo hi H Q →
    ∃ T id, typeLookup (.type T) "__getitem__" = pure (some (.builtin id)) ∧ s.TypeIs v T ∧ wpAny (model X.prog X.w) X.A (getItem v (.ref sl)) (EP X pins σ Q) X.xe s
def tSl (r : V → Option Int → Option Int → Hp → VK → Prop) (te : TE) (tl th : TO) : TE := fun σ H Q => te σ H fun x H1 => tl σ H1 fun l H2 => th σ H2 fun u H3 => r x l u H3 Q
/-- a[lo:hi], any a -/
theorem pe_slice {r : V → Option Int → Option Int → Hp → VK → Prop} (hr : SlR X r) (he : PE X e te) (hl : PO X lo tl) (hu : PO X hi th) : PE X (.Subscript e (.Slice lo hi none p2) pos) (tSl r te tl th) := by
  intro pins s σ H Q I h
  refine Subscript_ (thn (he pins s σ H _ I h) fun v s1 ⟨x, H1, I1, r1, q1⟩ => ?_)
  refine wpAny_Slice (thn (hl pins s1 σ H1 _ I1 q1) fun vl s2 ⟨l, H2, I2, pl, q2⟩ => thn (hu pins s2 σ H2 _ I2 q2) fun vu s3 ⟨u, H3, I3, pu, q3⟩ => ?_)
  rw [evalPart_none]
  refine wpAny_pure ?_
  have I4 : Inv X pins σ H3 { s3 with heap := s3.heap.push { cls := .type "slice", data := .fields #[vl, vu, .none] } } := I3.kept (t' := s3.toks) fun b ob q => Heap.get?_push_of_some _ q
  obtain ⟨T, id, hT, ht, hg⟩ := hr pins { s3 with heap := s3.heap.push { cls := .type "slice", data := .fields #[vl, vu, .none] } } σ H3 x v vl vu l u s3.heap.objs.size Q I4 r1 (Heap.IsSliceOf.new ..) pl pu q3
  show wpAny (model X.prog X.w) X.A (subscriptTail e (.Slice lo hi none p2) v (.ref s3.heap.objs.size)) (EP X pins σ Q) X.xe { s3 with heap := s3.heap.push { cls := .type "slice", data := .fields #[vl, vu, .none] } }
  exact tail_any (ops := [.ref s3.heap.objs.size, v]) ht hT hg (by with_unfolding_all rfl)

/-- the items of xs[lo:hi] -/
def cutV (xs : List V) (lo hi : Option Int) : List V := (xs.drop (HT.sIx xs.length 0 lo)).take (HT.sIx xs.length xs.length hi - HT.sIx xs.length 0 lo)
theorem cutV_length (xs : List V) (lo hi : Option Int) : (cutV xs lo hi).length ≤ xs.length := by
  unfold cutV
  rw [List.length_take, List.length_drop]
  omega
end
end L2

namespace L2
open PySem PySem.Spec PyProof.Rows

/-- the place that an index of any sign means -/
def ixN (n : Nat) (i : Int) : Option Nat := if 0 ≤ i then (if i < n then some i.toNat else none) else if -(n : Int) ≤ i then some (i + n).toNat else none
def atI {α : Type} (xs : List α) (i : Int) : Option α := (ixN xs.length i).bind fun j => xs[j]?
theorem ixN_seq {n : Nat} {i : Int} {j : Nat} (h : ixN n i = some j) : seqIndex? i n = some j ∧ j < n ∧ -(n : Int) ≤ i ∧ i < n := by
  unfold ixN at h
  by_cases h0 : 0 ≤ i
  · rw [if_pos h0] at h
    by_cases h1 : i < n
    · rw [if_pos h1] at h
      have e : i.toNat = j := Option.some.inj h
      exact ⟨by rw [seqIndex_of h0 h1, e], by omega, by omega, h1⟩
    · rw [if_neg h1] at h; cases h
  · rw [if_neg h0] at h
    by_cases h1 : -(n : Int) ≤ i
    · rw [if_pos h1] at h
      have e : (i + n).toNat = j := Option.some.inj h
      exact ⟨by rw [seqIndex_neg (by omega) h1, e], by omega, h1, by omega⟩
    · rw [if_neg h1] at h; cases h
theorem atI_get {α : Type} {xs : List α} {i : Int} {v : α} (h : atI xs i = some v) : ∃ j, seqIndex? i xs.length = some j ∧ xs[j]? = some v ∧ j < xs.length ∧ -(xs.length : Int) ≤ i ∧ i < xs.length := by
  unfold atI at h
  cases e : ixN xs.length i with
  | none => rw [e] at h; cases h
  | some j =>
    rw [e] at h
    obtain ⟨h1, h2, h3, h4⟩ := ixN_seq e
    exact ⟨j, h1, h, h2, h3, h4⟩
theorem atI_nat {α : Type} {xs : List α} {j : Nat} {v : α} (h : xs[j]? = some v) : atI xs (j : Int) = some v := by
  have hj : j < xs.length := (List.getElem?_eq_some_iff.mp h).1
  have e : ixN xs.length (j : Int) = some j := by
    unfold ixN
    rw [if_pos (by omega), if_pos (by omega)]; simp
  unfold atI; rw [e]; exact h
/-- what stands as an index of a plain subscript -/
def PlainIx (b : Expr) : Prop := ∀ o i, subscripted b false o i = operate [o, i] (getItem o i)
/-- a subscript by values -/
def IxR (X : Cx) (r : R2) : Prop :=
  ∀ (value slice : Expr) (pins : List (Addr × Obj)) (s : Shared) (σ : St) (H : Hp) (x y : V) (v u : Value) (Q : VK), Inv X pins σ H s → RelV x v → RelV y u → r x y H Q →
    subscripted slice false v u = operate [v, u] (getItem v u) → wpAny (model X.prog X.w) X.A (subscriptTail value slice v u) (EP X pins σ Q) X.xe s
/-- a call of a builtin's method by values: the receiver, the arguments -/
def MtR (X : Cx) (id : String) (r : V → List V → Hp → VK → Prop) : Prop :=
  ∀ (pins : List (Addr × Obj)) (s : Shared) (σ : St) (H : Hp) (x : V) (xs : List V) (v : Value) (us : List Value) (Q : VK), Inv X pins σ H s → RelV x v → Vals xs us → r x xs H Q →
    wpAny (model X.prog X.w) X.A (call (.builtin id) (v :: us)) (EP X pins σ Q) X.xe s
section
variable {X : Cx} {a b : Expr} {ta tb : TE} {pos : Pos}
theorem IxR.or {r r' : R2} (h : IxR X r) (h' : IxR X r') : IxR X (fun x y H Q => r x y H Q ∨ r' x y H Q) := by
  intro value slice pins s σ H x y v u Q I rx ry q hs
  rcases q with q | q
  · exact h value slice pins s σ H x y v u Q I rx ry q hs
  · exact h' value slice pins s σ H x y v u Q I rx ry q hs
/-- a[b] -/
theorem pe_ix {r : R2} (hr : IxR X r) (ha : PE X a ta) (hb : PE X b tb) (hs : PlainIx b) : PE X (.Subscript a b pos) (tOp r ta tb) := by
  intro pins s σ H Q I h
  exact Subscript_ (binT ha hb I h fun v u s2 x y H2 I2 rx ry q => hr a b pins s2 σ H2 x y v u Q I2 rx ry q (hs _ _))

def rIxL (K : PySem.W.Frag) : R2 := fun x y H Q => ∃ p xs i v, x = .ref p ∧ y = .int i ∧ SqL K H p xs ∧ atI xs i = some v ∧ Q v H
def rIxT (K : PySem.W.Frag) : R2 := fun x y H Q => ∃ p xs i v, x = .ref p ∧ y = .int i ∧ SqT K H p xs ∧ atI xs i = some v ∧ Q v H
def rIxS : R2 := fun x y H Q => ∃ z i c, x = .str z ∧ y = .int i ∧ z.length ≤ sizeLine ∧ atI z.cps.toList i = some c ∧ Q (.str ⟨#[c]⟩) H
theorem ix_list : IxR X (rIxL X.K) := by
  intro value slice pins s σ H x y v u Q I rx ry h hs
  obtain ⟨p, xs, i, z, rfl, rfl, hq, he, q⟩ := h
  cases rx
  obtain ⟨t, rfl⟩ := ry
  obtain ⟨its, r, pl, hz⟩ := I.list hq
  obtain ⟨j, h1, h2, h3, h4, h5⟩ := atI_get he
  obtain ⟨w, ew, rw'⟩ := r.get h2
  have hl := r.length
  have hn := line63
  have fin : EP X pins σ Q w s := ⟨z, H, I, rw', q⟩
  by_cases h0 : 0 ≤ i
  · have hj : i.toNat = j := by
      rw [seqIndex_of h0 h5] at h1
      exact Option.some.inj h1
    exact item_listR pl.isList h0 (by omega) (by rw [hj]; simpa using ew) fin hs
  · have hj : (i + (its.toArray.size : Int)).toNat = j := by
      rw [seqIndex_neg (by omega) h4] at h1
      rw [List.size_toArray, ← hl]
      exact Option.some.inj h1
    exact subscriptTail_builtinR (x := w) pl.isList.typeIs slot_list_getitem.lookup
      (wpAny_getItem_list_neg (Q := fun r s' => r = w ∧ EP X pins σ Q r s') pl.isList (by omega) (by rw [List.size_toArray] <;> omega) (by omega) (by rw [hj]; simpa using ew) ⟨rfl, fin⟩) hs
theorem ix_tup : IxR X (rIxT X.K) := by
  intro value slice pins s σ H x y v u Q I rx ry h hs
  obtain ⟨p, xs, i, z, rfl, rfl, hq, he, q⟩ := h
  cases rx
  obtain ⟨t, rfl⟩ := ry
  obtain ⟨its, r, pl, hz⟩ := I.tuple hq
  obtain ⟨j, h1, h2, h3, h4, h5⟩ := atI_get he
  obtain ⟨w, ew, rw'⟩ := r.get h2
  have hl := r.length
  have hn := line63
  have fin : EP X pins σ Q w s := ⟨z, H, I, rw', q⟩
  exact subscriptTail_builtinR (x := w) pl.typeIs slot_tuple_getitem.lookup
    (getItem_tuple (j := j) (Q := fun r s' => r = w ∧ EP X pins σ Q r s') pl (by omega) (by omega) (by rw [List.size_toArray, ← hl]; exact h1) (by simpa using ew) ⟨rfl, fin⟩) hs
theorem ix_str : IxR X rIxS := by
  intro value slice pins s σ H x y v u Q I rx ry h hs
  obtain ⟨z, i, c, rfl, rfl, hz, he, q⟩ := h
  obtain ⟨t, rfl⟩ := rx
  obtain ⟨t', rfl⟩ := ry
  obtain ⟨j, h1, h2, h3, h4, h5⟩ := atI_get he
  have hl : z.cps.toList.length = z.length := by simp [Str.length]
  rw [hl] at h1 h4 h5
  have hn := line63
  exact tail_any (typeIs_str s z t) slot_str_getitem.lookup (getItem_str (c := c) (by
    have e1 : decide (i < -(2 ^ 63 : Int)) = false := decide_eq_false (by omega)
    have e2 : decide (i ≥ 2 ^ 63) = false := decide_eq_false (by omega)
    rw [e1, e2, Bool.or_false]) (by rw [h1]; simpa using h2) ⟨.str ⟨#[c]⟩, H, I.tok _, ⟨_, rfl⟩, q⟩) hs
/-- list, tuple or str -/
def rIx (K : PySem.W.Frag) : R2 := fun x y H Q => rIxL K x y H Q ∨ rIxT K x y H Q ∨ rIxS x y H Q
theorem ix_seq : IxR X (rIx X.K) := ix_list.or (ix_tup.or ix_str)

/-- the list's object behind a store -/
theorem mapSeq_set (its : List Value) (n j : Nat) (u : Value) : Obj.mapSeq (·.setIfInBounds j u) { cls := .type "list", data := .seq its.toArray n } = { cls := .type "list", data := .seq (its.set j u).toArray n } := by
  simp [Obj.mapSeq]
theorem Inv.lst {pins : List (Addr × Obj)} {σ : St} {H : Hp} {s : Shared} {p : Addr} {xs : List V} (I : Inv X pins σ H s) (h : H p = some (.lst xs)) :
    ∃ (its : List Value) (n : Nat), Vals xs its ∧ s.heap.get? p = some { cls := .type "list", data := .seq its.toArray n } ∧ xs.length ≤ sizeLine := by
  obtain ⟨z, its, n, r, e⟩ := I.hok p _ h
  exact ⟨its, n, r, e, z⟩
/-- the list at p is written by an update of its object -/
theorem Inv.lstUpd {pins : List (Addr × Obj)} {σ : St} {H : Hp} {s : Shared} {p : Addr} {xs ys : List V} {its its' : List Value} {n n' : Nat} {f : Obj → Obj} (I : Inv X pins σ H s) (h : H p = some (.lst xs))
    (ho : s.heap.get? p = some { cls := .type "list", data := .seq its.toArray n }) (hf : f { cls := .type "list", data := .seq its.toArray n } = { cls := .type "list", data := .seq its'.toArray n' }) (r : Vals ys its') (hz : ys.length ≤ sizeLine) (t : Nat) :
    Inv X pins σ (upd H p (.lst ys)) { s with heap := s.heap.update p f, toks := t } := by
  have e : (s.heap.update p f).get? p = some { cls := .type "list", data := .seq its'.toArray n' } := by
    rw [Heap.get?_update_self f ho (by rw [hf] <;> rfl), hf]
  refine I.write (x := p) (e := p) (by rw [h]; trivial) (.inl rfl) (fun b u hb q => (Heap.get?_update_other _ _ (Ne.symm hb)).trans q) ⟨_, e⟩ ?_
  exact ⟨hz, its', n', r, e⟩
def rSetL : V → V → V → Hp → (Hp → Prop) → Prop := fun o i v H Q => ∃ p xs k j, o = .ref p ∧ i = .int k ∧ H p = some (.lst xs) ∧ ixN xs.length k = some j ∧ Q (upd H p (.lst (xs.set j v)))
theorem set_list : PSet X rSetL := by
  intro pins s σ H o i v ov iv u Q I ro ri rv h
  obtain ⟨p, xs, k, j, rfl, rfl, hp, hj, q⟩ := h
  cases ro
  obtain ⟨t, rfl⟩ := ri
  obtain ⟨its, n, r, ho, hz⟩ := I.lst hp
  obtain ⟨h1, h2, h3, h4⟩ := ixN_seq hj
  have hl := r.length
  have hn := line63
  have I' : Inv X pins σ (upd H p (.lst (xs.set j v))) { s with heap := s.heap.update p (Obj.mapSeq (·.setIfInBounds j u)) } :=
    I.lstUpd hp ho (mapSeq_set its n j u) (r.set rv j) (by rw [List.length_set]; exact hz) s.toks
  by_cases h0 : 0 ≤ k
  · have hk : k.toNat = j := by
      rw [seqIndex_of h0 h4] at h1
      exact Option.some.inj h1
    exact PySem.W.ki_setAt ho h0 (by omega) (by rw [List.size_toArray, ← hl]; exact h4) (by rw [hk]; exact ⟨_, I', q⟩)
  · have hk : (k + (its.toArray.size : Int)).toNat = j := by
      rw [seqIndex_neg (by omega) h3] at h1
      rw [List.size_toArray, ← hl]
      exact Option.some.inj h1
    exact PySem.W.ki_setBack ho (by omega) (by rw [List.size_toArray, ← hl]; exact h3) (by omega) (by rw [hk]; exact ⟨_, I', q⟩)

theorem slice_bounds (lo hi : Option Int) (n : Nat) : (sliceBounds lo hi none n).1 = ((HT.sIx n 0 lo : Nat) : Int) ∧ (sliceBounds lo hi none n).2.1 = ((HT.sIx n n hi : Nat) : Int) ∧ (sliceBounds lo hi none n).2.2 = 1 := by
  refine ⟨?_, ?_, rfl⟩
  · cases lo with
    | none => simp [sliceBounds, HT.sIx]
    | some i =>
      simp only [sliceBounds, HT.sIx, Option.getD_none, show (1 : Int) > 0 by decide, if_true]
      by_cases h : i < 0
      · simp only [h, if_true] <;> omega
      · simp only [h, if_false] <;> omega
  · cases hi with
    | none => simp [sliceBounds, HT.sIx]
    | some i =>
      simp only [sliceBounds, HT.sIx, Option.getD_none, show (1 : Int) > 0 by decide, if_true]
      by_cases h : i < 0
      · simp only [h, if_true] <;> omega
      · simp only [h, if_false] <;> omega
theorem slicePick_cut (its : List Value) (lo hi : Option Int) : slicePick its.toArray lo hi none = ((its.drop (HT.sIx its.length 0 lo)).take (HT.sIx its.length its.length hi - HT.sIx its.length 0 lo)).toArray := by
  obtain ⟨h1, h2, h3⟩ := slice_bounds lo hi its.toArray.size
  unfold slicePick
  rw [h1, h2, h3]
  simp only [sliceRange_one, pick_run, List.size_toArray] <;> rfl
/-- xs[lo:hi] of a list: a new list -/
def rSlL (K : PySem.W.Frag) : V → Option Int → Option Int → Hp → VK → Prop := fun x lo hi H Q => ∃ a xs, x = .ref a ∧ SqL K H a xs ∧ ∀ p, H p = none → Q (.ref p) (upd H p (.lst (cutV xs lo hi)))
theorem sl_list : SlR X (rSlL X.K) := by
  intro pins s σ H x v vl vu lo hi sl Q I rx hs pl pu h
  obtain ⟨a, xs, rfl, hx, q⟩ := h
  cases rx
  obtain ⟨its, r, ht, hz⟩ := I.list hx
  have hlen := r.length
  refine ⟨"list", _, slot_list_getitem.lookup, ht.isList.typeIs, ?_⟩
  refine wpAny_getItem_list_slice ht.isList hs pl pu .none (by simp) ?_ (by rw [List.size_toArray] <;> omega)
  rw [slicePick_cut, ← hlen]
  refine ⟨.ref s.heap.objs.size, _, I.laid (t' := s.toks) (o := .lst (cutV xs lo hi)) (fun b ob q => Heap.get?_push_of_some _ q) (Nat.le_refl _) ?_, rfl, q _ (I.hok.fresh (Nat.le_refl _))⟩
  exact ⟨Nat.le_trans (cutV_length xs lo hi) hz, _, 0, (r.drop (HT.sIx xs.length 0 lo)).take (HT.sIx xs.length xs.length hi - HT.sIx xs.length 0 lo), Heap.get?_push_size _ rfl⟩

def flatV : V → Bool
  | .non => true
  | .bl _ => true
  | .int _ => true
  | .str _ => true
  | _ => false
/-- == of flat values -/
def eqV : V → V → Bool
  | .non, .non => true
  | .bl a, .bl b => a == b
  | .bl a, .int b => (if a then 1 else 0) == b
  | .int a, .bl b => a == (if b then 1 else 0)
  | .int a, .int b => a == b
  | .str a, .str b => a == b
  | _, _ => false
theorem eqAt_V {A : Around} {s : Shared} {y x : V} {u v : Value} (ry : RelV y u) (rx : RelV x v) (fy : flatV y = true) (fx : flatV x = true) : SeqAt.EqAt A s u v (eqV y x) := by
  cases y with
  | non =>
    cases ry
    cases x with
    | non => cases rx; exact SeqAt.EqAt.same _
    | bl b => cases rx; exact SeqAt.EqAt.none_bool b
    | int b => obtain ⟨t, rfl⟩ := rx; exact SeqAt.EqAt.none_int b t
    | str b => obtain ⟨t, rfl⟩ := rx; exact SeqAt.EqAt.none_str b t
    | _ => exact absurd (show false = true from fx) Bool.false_ne_true
  | bl a =>
    cases ry
    cases x with
    | non => cases rx; exact SeqAt.EqAt.bool_none a
    | bl b => cases rx; exact SeqAt.EqAt.bool_bool a b
    | int b => obtain ⟨t, rfl⟩ := rx; exact SeqAt.EqAt.bool_int a b t
    | str b => obtain ⟨t, rfl⟩ := rx; exact SeqAt.EqAt.bool_str a b t
    | _ => exact absurd (show false = true from fx) Bool.false_ne_true
  | int a =>
    obtain ⟨t', rfl⟩ := ry
    cases x with
    | non => cases rx; exact SeqAt.EqAt.int_none a t'
    | bl b => cases rx; exact SeqAt.EqAt.int_bool a t' b
    | int b => obtain ⟨t, rfl⟩ := rx; exact SeqAt.EqAt.int_int a t' b t
    | str b => obtain ⟨t, rfl⟩ := rx; exact SeqAt.EqAt.int_str a t' b t
    | _ => exact absurd (show false = true from fx) Bool.false_ne_true
  | str a =>
    obtain ⟨t', rfl⟩ := ry
    cases x with
    | non => cases rx; exact SeqAt.EqAt.str_none a t'
    | bl b => cases rx; exact SeqAt.EqAt.str_bool a t' b
    | int b => obtain ⟨t, rfl⟩ := rx; exact SeqAt.EqAt.str_int a t' b t
    | str b => obtain ⟨t, rfl⟩ := rx; exact SeqAt.EqAt.str_str a t' b t
    | _ => exact absurd (show false = true from fx) Bool.false_ne_true
  | _ => exact absurd (show false = true from fy) Bool.false_ne_true
/-- the items' answers, read off the values (a value's own answer does not lean on its token) -/
def eqU (x : V) (u : Value) : Bool := match u with
  | .none => eqV .non x
  | .bool b => eqV (.bl b) x
  | .int i _ => eqV (.int i) x
  | .str z _ => eqV (.str z) x
  | _ => false
theorem eqU_of {x y : V} {u : Value} (r : RelV y u) (f : flatV y = true) : eqU x u = eqV y x := by
  cases y with
  | non => cases r; rfl
  | bl b => cases r; rfl
  | int i => obtain ⟨t, rfl⟩ := r; rfl
  | str z => obtain ⟨t, rfl⟩ := r; rfl
  | _ => exact absurd (show false = true from f) Bool.false_ne_true
theorem any_eqU {x : V} : ∀ {xs : List V} {us : List Value}, Vals xs us → xs.all flatV = true → us.any (eqU x) = xs.any fun y => eqV y x
  | _, _, .nil, _ => rfl
  | y :: xs, u :: us, .cons r t, f => by
    rw [List.all_cons, Bool.and_eq_true] at f
    rw [List.any_cons, List.any_cons, eqU_of r f.1, any_eqU t f.2]
theorem mem_eqAt {A : Around} {s : Shared} {x : V} {v : Value} (rx : RelV x v) (fx : flatV x = true) : ∀ {xs : List V} {us : List Value}, Vals xs us → xs.all flatV = true → ∀ u ∈ us, SeqAt.EqAt A s u v (eqU x u)
  | _, _, .nil, _ => fun u hu => by cases hu
  | y :: xs, u :: us, .cons r t, f => fun u' hu => by
    rw [List.all_cons, Bool.and_eq_true] at f
    rcases List.mem_cons.mp hu with rfl | hu
    · rw [eqU_of r f.1]; exact eqAt_V r rx f.1 fx
    · exact mem_eqAt rx fx t f.2 u' hu
def inV (x : V) (xs : List V) : Bool := xs.any fun y => eqV y x
/-- x in a list or tuple of flat items -/
def rIn (K : PySem.W.Frag) (neg : Bool) : R2 := fun x y H Q => ∃ p xs, y = .ref p ∧ (SqL K H p xs ∨ SqT K H p xs) ∧ flatV x = true ∧ xs.all flatV = true ∧ Q (.bl (if neg then !inV x xs else inV x xs)) H
theorem op_notIn_seq : OpR X (compareOp .NotIn) (rIn X.K true) := by
  intro pins s σ H x y v u Q I rx ry h
  obtain ⟨p, xs, rfl, hq, fx, fs, q⟩ := h
  cases ry
  rcases hq with hq | hq
  · obtain ⟨its, r, pl, hz⟩ := I.list hq
    refine SeqAt.notIn_listAt (eqU x) pl.isList (fun w hw => mem_eqAt rx fx r fs w (by simpa using hw)) ⟨.bl _, H, I, rfl, ?_⟩
    rw [show its.toArray.any (eqU x) = its.any (eqU x) by simp, any_eqU r fs]
    exact q
  · obtain ⟨its, r, pl, hz⟩ := I.tuple hq
    refine SeqAt.notIn_tupleAt (eqU x) pl (fun w hw => mem_eqAt rx fx r fs w (by simpa using hw)) ⟨.bl _, H, I, rfl, ?_⟩
    rw [show its.toArray.any (eqU x) = its.any (eqU x) by simp, any_eqU r fs]
    exact q
theorem call_len_seq : CallR X (.builtin "len") (fun xs H Q => ∃ p ys, xs = [.ref p] ∧ (SqL X.K H p ys ∨ SqT X.K H p ys) ∧ Q (.int ys.length) H) := by
  intro pins s σ H xs us Q I r h
  obtain ⟨p, ys, rfl, hq, q⟩ := h
  obtain ⟨u, rfl, rx⟩ := vals1 r
  cases rx
  have hn := line63
  rcases hq with hq | hq
  · obtain ⟨its, r', pl, hz⟩ := I.list hq
    have hlen := r'.length
    exact Calls.call_len_list pl.isList (by simp only [List.size_toArray] <;> omega) ⟨.int ys.length, H, I.tok _, ⟨s.toks + 1, by rw [List.size_toArray, hlen]⟩, q⟩
  · obtain ⟨its, r', pl, hz⟩ := I.tuple hq
    have hlen := r'.length
    exact len_tuple pl (by simp only [List.size_toArray] <;> omega) ⟨.int ys.length, H, I.tok _, ⟨s.toks + 1, by rw [List.size_toArray, hlen]⟩, q⟩
theorem call_len_str : CallR X (.builtin "len") (fun xs H Q => ∃ z, xs = [.str z] ∧ z.length ≤ sizeLine ∧ Q (.int z.length) H) := by
  intro pins s σ H xs us Q I r h
  obtain ⟨z, rfl, hz, q⟩ := h
  obtain ⟨u, rfl, t, rfl⟩ := vals1 r
  have hn := line63
  exact len_str (by omega) ⟨.int z.length, H, I.tok _, ⟨_, rfl⟩, q⟩
theorem call_list_of : CallR X (.type "list") (fun xs H Q => ∃ p ys, xs = [.ref p] ∧ (SqL X.K H p ys ∨ SqT X.K H p ys) ∧ ∀ l, H l = none → Q (.ref l) (upd H l (.lst ys))) := by
  intro pins s σ H xs us Q I r h
  obtain ⟨p, ys, rfl, hq, q⟩ := h
  obtain ⟨u, rfl, rx⟩ := vals1 r
  cases rx
  have fin : ∀ (its : List Value), Vals ys its → ys.length ≤ sizeLine → ∀ (h' : Heap) (c' : Nat), (∀ b o', s.heap.get? b = some o' → h'.get? b = some o') →
      h'.get? s.heap.objs.size = some { cls := .type "list", dict := none, data := .seq its.toArray c', slots := #[] } → EP X pins σ Q (.ref s.heap.objs.size) { s with heap := h' } := fun its r' hz h' c' kp e =>
    ⟨.ref s.heap.objs.size, _, I.laid (t' := s.toks) kp (Nat.le_refl _) (show ObjOk X.prog X.w _ h' _ (.lst ys) from ⟨hz, its, c', r', e⟩), rfl, q _ (I.hok.fresh (Nat.le_refl _))⟩
  rcases hq with hq | hq
  · obtain ⟨its, r', pl, hz⟩ := I.list hq
    have hlen := r'.length
    obtain ⟨o, ho, hc, n, hd⟩ := pl.isList
    exact call_list_seq p (.inl rfl) ho hc hd (fun h' c' kp e => fin its r' hz h' c' kp e) (by simp only [List.size_toArray] <;> omega)
  · obtain ⟨its, r', pl, hz⟩ := I.tuple hq
    have hlen := r'.length
    obtain ⟨o, ho, hc, n, hd⟩ := pl
    exact call_list_seq p (.inr rfl) ho hc hd (fun h' c' kp e => fin its r' hz h' c' kp e) (by simp only [List.size_toArray] <;> omega)
theorem call_tuple_of : CallR X (.type "tuple") (fun xs H Q => ∃ p ys, xs = [.ref p] ∧ ((SqL X.K H p ys ∧ ∀ l, H l = none → Q (.ref l) (upd H l (.tup ys))) ∨ (SqT X.K H p ys ∧ Q (.ref p) H))) := by
  intro pins s σ H xs us Q I r h
  obtain ⟨p, ys, rfl, h⟩ := h
  obtain ⟨u, rfl, rx⟩ := vals1 r
  cases rx
  rcases h with ⟨hq, q⟩ | ⟨hq, q⟩
  · obtain ⟨its, r', pl, hz⟩ := I.list hq
    have hlen := r'.length
    refine call_tuple_list pl.isList (fun h' kp => ?_) (by simp only [List.size_toArray] <;> omega)
    have I1 : Inv X pins σ H { s with heap := h' } := I.kept (t' := s.toks) kp
    have I2 : Inv X pins σ (upd H h'.objs.size (.tup ys)) { s with heap := h'.push { cls := .type "tuple", data := .seq its.toArray } } :=
      I1.laid (t' := s.toks) (fun b o e => Heap.get?_push_of_some _ e) (Nat.le_refl _) (show ObjOk X.prog X.w _ _ _ (.tup ys) from ⟨⟨hz, _, Heap.get?_push_size _ rfl, rfl⟩, its, r', IsTup.new _ _⟩)
    exact ⟨.ref h'.objs.size, _, I2, rfl, q _ (I1.hok.fresh (Nat.le_refl _))⟩
  · obtain ⟨its, r', pl, hz⟩ := I.tuple hq
    exact call_tuple_same pl ⟨.ref p, H, I, rfl, q⟩

/-- the value is of that builtin type -/
def tyV (K : PySem.W.Frag) (T : String) (x : V) (H : Hp) : Prop := match x with
  | .str _ => T = "str"
  | .int _ => T = "int"
  | .ref p => (T = "list" ∧ ∃ xs, SqL K H p xs) ∨ (T = "tuple" ∧ ∃ o, K.lookup p = some o ∧ o.cls = .type "tuple" ∧ o.dict = none) ∨
      (T = "dict" ∧ ((∃ kvs, H p = some (.dK kvs)) ∨ ∃ kvs, H p = some (.dT kvs))) ∨ (T = "set" ∧ ∃ S n, H p = some (.set S n))
  | _ => False
theorem tyV_is {pins : List (Addr × Obj)} {σ : St} {H : Hp} {s : Shared} {T : String} {x : V} {v : Value} (I : Inv X pins σ H s) (r : RelV x v) (ty : tyV X.K T x H) :
    s.TypeIs v T ∧ ∀ a, v = .ref a → ∃ ob, s.heap.get? a = some ob ∧ ob.dict = none := by
  cases x with
  | str z =>
    obtain ⟨t, rfl⟩ := r
    cases (show T = "str" from ty)
    exact ⟨typeIs_str s z t, fun _ e => nomatch e⟩
  | int i =>
    obtain ⟨t, rfl⟩ := r
    cases (show T = "int" from ty)
    exact ⟨typeIs_int s i t, fun _ e => nomatch e⟩
  | ref p =>
    cases r
    rcases ty with ⟨rfl, xs, hq⟩ | ⟨rfl, o, hk, hc, hd⟩ | ⟨rfl, hk⟩ | ⟨rfl, S, n, hk⟩
    · obtain ⟨its, _, pl, _⟩ := I.list hq
      refine ⟨pl.isList.typeIs, fun a e => ?_⟩
      cases e
      obtain ⟨o, n, e, c, hd, _⟩ := pl
      exact ⟨o, e, hd⟩
    · refine ⟨⟨o, I.kIn p o hk, hc⟩, fun a e => ?_⟩
      cases e
      exact ⟨o, I.kIn _ o hk, hd⟩
    · have z : ∃ o, s.heap.get? p = some o ∧ o.ExactDict := by
        rcases hk with ⟨kvs, hk⟩ | ⟨kvs, hk⟩
        · obtain ⟨_, _, _, _, o, _, _, e, ex, _⟩ := I.hok p _ hk
          exact ⟨o, e, ex⟩
        · obtain ⟨_, _, _, _, o, _, _, e, ex, _⟩ := I.hok p _ hk
          exact ⟨o, e, ex⟩
      obtain ⟨o, e, ex⟩ := z
      refine ⟨⟨o, e, ex.1⟩, fun a e2 => ?_⟩
      cases e2
      exact ⟨o, e, ex.2.1⟩
    · obtain ⟨o, _, _, _, e, ex, _⟩ := I.hok p _ hk
      refine ⟨⟨o, e, ex.1⟩, fun a e2 => ?_⟩
      cases e2
      exact ⟨o, e, ex.2.1⟩
  | _ => exact False.elim ty
def tBM0 (K : PySem.W.Frag) (T : String) (r : V → List V → Hp → VK → Prop) (to : TE) : TE := fun σ H Q => to σ H fun x H1 => tyV K T x H1 ∧ r x [] H1 Q
def tBM (K : PySem.W.Frag) (T : String) (r : V → List V → Hp → VK → Prop) (to : TE) (t : TA) : TE := fun σ H Q => to σ H fun x H1 => tyV K T x H1 ∧ t σ H1 fun xs H2 => r x xs H2 Q
variable {o e : Expr} {es : List Expr} {to : TE} {t : TA} {name : Str} {apos cpos : Pos} {T id : String} {r : V → List V → Hp → VK → Prop}
theorem pe_bm0 (pa : PlainAttrs T) (slot : Slot T name id) (hty : typeOf (.builtin id) = pure (.type "method_descriptor")) (hm : MtR X id r) (ho : PE X o to)
    (hbase : attributeBase o name X.env (eval o X.env) = eval o X.env := by rfl) (hline : (apos.endLine == cpos.line) = true := by rfl) : PE X (.Call (.Attribute o name apos) [] [] cpos) (tBM0 X.K T r to) := by
  intro pins s σ H Q I h
  refine wpAny_Call_method0_late hbase hline (thn (ho pins s σ H _ I h) fun v s1 ⟨x, H1, I1, r1, ty, q1⟩ => ?_)
  obtain ⟨h1, h2⟩ := tyV_is I1 r1 ty
  exact ⟨T, id, pa, slot, hty, h1, h2, Calls.callWith_builtin rfl (PySem.evalArgs_none (hm pins s1 σ H1 x [] v [] Q I1 r1 .nil q1))⟩
theorem pe_bm (pa : PlainAttrs T) (slot : Slot T name id) (hty : typeOf (.builtin id) = pure (.type "method_descriptor")) (hm : MtR X id r) (ho : PE X o to) (ha : PA X (e :: es) t)
    (hbase : attributeBase o name X.env (eval o X.env) = eval o X.env := by rfl)
    (hfew : ((backTo cpos (starEach (e :: es) X.env)).all (fun x => !x.1) && (backToKw cpos (keywordEach [] X.env)).all (fun x => x.1.isSome)
      && decide ((e :: es).length + ([] : List Keyword).length + (if ([] : List Keyword).isEmpty then 0 else 1) < 30)) = true := by rfl)
    (hline : (apos.endLine == cpos.line) = true := by rfl) (hs : starEach (e :: es) X.env = (false, eval e X.env) :: starEach es X.env := by rfl) (hplain : (backTo cpos (starEach es X.env)).any (·.1) = false := by rfl) :
    PE X (.Call (.Attribute o name apos) (e :: es) [] cpos) (tBM X.K T r to t) := by
  intro pins s σ H Q I h
  refine wpAny_Call_method_late hbase hfew hline rfl (thn (ho pins s σ H _ I h) fun v s1 ⟨x, H1, I1, r1, ty, q1⟩ => ?_)
  obtain ⟨h1, h2⟩ := tyV_is I1 r1 ty
  refine ⟨T, id, pa, slot, hty, h1, h2, ?_⟩
  have hA := ha cpos pins s1 σ H1 _ I1 q1
  rw [hs] at hA ⊢
  refine Calls.callWith_builtin (by show (false || (backTo cpos (starEach es X.env)).any (·.1)) = false; rw [hplain] <;> rfl) (Calls.evalArgs_plain ?_)
  exact thn hA fun us s2 ⟨vs, H2, I2, r2, q2⟩ => hm pins s2 σ H2 x vs v us Q I2 r1 r2 q2
/- xs.append(e), list.index on a module's tuple .. are MtR facts of 06m -/
end
end L2

namespace L2
open PySem PySem.Spec PyProof.Rows

def MtM (X : Cx) (id : String) (r : V → List V → Hp → VK → Prop) : Prop :=
  ∀ (pins : List (Addr × Obj)) (s : Shared) (σ : St) (H : Hp) (x : V) (xs : List V) (v : Value) (us : List Value) (Q : VK), Inv X pins σ H s → RelV x v → Vals xs us → r x xs H Q →
    wpAny (model X.prog X.w) X.A (call (.builtin id) (v :: us)) (EP X pins σ Q) X.xe s

theorem Vals.one : ∀ {x : V} {us : List Value}, Vals [x] us → ∃ u, us = [u] ∧ RelV x u
  | _, _, .cons r .nil => ⟨_, rfl, r⟩
theorem Vals.zero : ∀ {us : List Value}, Vals [] us → us = []
  | _, .nil => rfl
theorem Vals.eraseIdx : ∀ {xs : List V} {us : List Value} (i : Nat), Vals xs us → Vals (xs.eraseIdx i) (us.eraseIdx i)
  | _, _, _, .nil => .nil
  | _, _, 0, .cons _ t => t
  | _, _, i + 1, .cons r t => .cons r (Vals.eraseIdx i t)
theorem len_erase {α : Type} : ∀ (l : List α) (i : Nat), (l.eraseIdx i).length ≤ l.length
  | [], _ => Nat.le_refl _
  | _ :: _, 0 => Nat.le_succ _
  | _ :: r, i + 1 => Nat.succ_le_succ (len_erase r i)
section
variable {X : Cx} {pins : List (Addr × Obj)} {σ : St} {H : Hp} {s : Shared} {l b : Addr} {xs ys zs : List V}

theorem Inv.lset {its its' : List Value} {n : Nat} {f : Array Value → Array Value} {t' : Nat} (I : Inv X pins σ H s) (hH : H l = some (.lst xs))
    (e : s.heap.get? l = some { cls := .type "list", data := .seq its.toArray n }) (hf : f its.toArray = its'.toArray) (hv : Vals ys its') (hz : ys.length ≤ sizeLine) :
    Inv X pins σ (upd H l (.lst ys)) { s with heap := s.heap.update l (Obj.mapSeq f), toks := t' } := by
  have q := PySem.IsL.update e f
  rw [hf] at q
  refine I.write (x := l) (e := l) (by rw [hH]; exact trivial) (.inl rfl) (fun b' u hb hu => (Heap.get?_update_other s.heap (Obj.mapSeq f) (Ne.symm hb)).trans hu) ⟨_, q⟩ ?_
  exact ⟨hz, its', _, hv, q⟩
theorem Inv.lstM (I : Inv X pins σ H s) (hH : H l = some (.lst xs)) : xs.length ≤ sizeLine ∧ ∃ (its : List Value) (n : Nat), Vals xs its ∧ xs.length = its.length ∧ s.heap.get? l = some { cls := .type "list", data := .seq its.toArray n } := by
  obtain ⟨z, its, n, r, e⟩ := I.hok l _ hH
  exact ⟨z, its, n, r, r.length, e⟩

end

section
variable {X : Cx}

def rAppend : V → List V → Hp → VK → Prop := fun x vs H Q => ∃ l xs y, x = .ref l ∧ vs = [y] ∧ H l = some (.lst xs) ∧ xs.length < sizeLine ∧ Q .non (upd H l (.lst (xs ++ [y])))
theorem mt_append : MtM X "list.append" rAppend := by
  intro pins s σ H x vs v us Q I rx rv h
  obtain ⟨l, xs, y, rfl, rfl, hH, hz, q⟩ := h
  cases rx
  obtain ⟨u, rfl, ru⟩ := rv.one
  obtain ⟨z, its, n, r, hl, e⟩ := I.lstM hH
  refine call_meets F.slot_list_append ⟨_, e, rfl⟩ F.entry_list_append (F.args_list_append_2 _ _) (PySem.list_append l its.toArray n u (by rw [List.size_toArray]; omega)) ⟨e, ?_⟩
  refine ⟨.non, _, I.lset (its' := its ++ [u]) hH e (by simp) (r.append (.cons ru .nil)) ?_, rfl, q⟩
  rw [List.length_append, List.length_singleton]
  omega

def rPopAt : V → List V → Hp → VK → Prop := fun x vs H Q => ∃ l xs i k y, x = .ref l ∧ vs = [.int i] ∧ H l = some (.lst xs) ∧ -(2 ^ 63) ≤ i ∧ i < 2 ^ 63 ∧ seqIndex? i xs.length = some k ∧ xs[k]? = some y ∧ Q y (upd H l (.lst (xs.eraseIdx k)))
theorem mt_popAt : MtM X "list.pop" rPopAt := by
  intro pins s σ H x vs v us Q I rx rv h
  obtain ⟨l, xs, i, k, y, rfl, rfl, hH, h1, h2, hk, hy, q⟩ := h
  cases rx
  obtain ⟨u, rfl, ru⟩ := rv.one
  obtain ⟨t, rfl⟩ := ru
  obtain ⟨z, its, n, r, hl, e⟩ := I.lstM hH
  obtain ⟨w, hw, rw'⟩ := r.get hy
  refine call_meets F.slot_list_pop ⟨_, e, rfl⟩ F.entry_list_pop (F.args_list_pop_2 _ _)
    (MeetsSeq.list_pop_at l its.toArray n i t k w (fitsIndex_both h1 h2) (by rw [List.size_toArray, ← hl]; exact hk) (by rw [← Array.getElem?_toList]; exact hw) (by rw [List.size_toArray]; omega)) ⟨e, ?_⟩
  refine ⟨y, _, I.lset (its' := its.eraseIdx k) hH e ?_ (r.eraseIdx k) ?_, rw', q⟩
  · show its.toArray.eraseIdxIfInBounds k = (its.eraseIdx k).toArray
    rw [List.eraseIdxIfInBounds_toArray]
  · have := len_erase xs k
    omega

def rClear : V → List V → Hp → VK → Prop := fun x vs H Q => ∃ l xs, x = .ref l ∧ vs = [] ∧ H l = some (.lst xs) ∧ Q .non (upd H l (.lst []))
theorem mt_clear : MtM X "list.clear" rClear := by
  intro pins s σ H x vs v us Q I rx rv h
  obtain ⟨l, xs, rfl, rfl, hH, q⟩ := h
  cases rx
  have hus := rv.zero
  subst hus
  obtain ⟨z, its, n, r, hl, e⟩ := I.lstM hH
  refine call_meets F.slot_list_clear ⟨_, e, rfl⟩ F.entry_list_clear (F.args_list_clear_1 _) (AutoSeq1.list_clear_list_0 l its.toArray n (by rw [List.size_toArray]; omega)) ⟨e, ?_⟩
  exact ⟨.non, _, I.lset (its' := []) (ys := []) hH e rfl .nil (Nat.zero_le _), rfl, q⟩

end

section
variable {prog : Program} {w : World} {A : Around} {E : Value → Shared → Prop} {s : Shared}
end

section
variable {X : Cx}
end
end L2

namespace L2
open PySem PySem.Spec PyProof.Rows

section
variable {κ : Type} [DecidableEq κ]
def valV (kvs : List (κ × V)) (k : κ) : Option V := (kvs.find? fun kv => decide (kv.1 = k)).map (·.2)
/-- in its place, or at the end -/
def putK (kvs : List (κ × V)) (k : κ) (v : V) : List (κ × V) :=
  if (kvs.any fun kv => decide (kv.1 = k)) = true then kvs.map (fun kv => if kv.1 = k then (kv.1, v) else kv) else kvs ++ [(k, v)]
theorem valV_pos {p : κ × V} {r : List (κ × V)} {k : κ} (e : p.1 = k) : valV (p :: r) k = some p.2 := by simp [valV, List.find?_cons, e]
theorem valV_neg {p : κ × V} {r : List (κ × V)} {k : κ} (e : ¬ p.1 = k) : valV (p :: r) k = valV r k := by simp [valV, List.find?_cons, e]
theorem valV_any (k : κ) : ∀ kvs : List (κ × V), (kvs.any fun kv => decide (kv.1 = k)) = (valV kvs k).isSome
  | [] => rfl
  | p :: r => by
    rw [List.any_cons]
    by_cases e : p.1 = k
    · simp only [valV_pos e, decide_eq_true e, Bool.true_or, Option.isSome_some]
    · rw [valV_neg e, decide_eq_false e, Bool.false_or]; exact valV_any k r
theorem length_putK (kvs : List (κ × V)) (k : κ) (v : V) : (putK kvs k v).length ≤ kvs.length + 1 := by
  unfold putK
  split
  · rw [List.length_map]; omega
  · rw [List.length_append, List.length_cons, List.length_nil]; omega
theorem putK_new {kvs : List (κ × V)} {k : κ} (v : V) (h : valV kvs k = none) : putK kvs k v = kvs ++ [(k, v)] := by
  unfold putK
  rw [valV_any, h]
  exact if_neg (by decide)

theorem RelO.isSome_eq {o : Option V} {u : Option Value} (r : RelO o u) : o.isSome = u.isSome := by
  cases o with
  | none => cases u with
    | none => rfl
    | some _ => exact (show False from r).elim
  | some _ => cases u with
    | none => exact (show False from r).elim
    | some _ => rfl
/-- raw tables of the same keys -/
theorem KV.val {kvs : List (κ × V)} {vs : List (κ × Value)} (r : KV kvs vs) (k : κ) : RelO (valV kvs k) (valueAt vs k) := by
  unfold KV at r
  induction r with
  | nil => exact True.intro
  | @cons p q ps qs h t ih =>
    obtain ⟨h1, h2⟩ := h
    by_cases e : p.1 = k
    · have e' : q.1 = k := h1.symm.trans e
      have b : valueAt (q :: qs) k = some q.2 := by simp [valueAt, List.find?_cons, e']
      rw [valV_pos e, b]; exact h2
    · have e' : ¬ q.1 = k := fun z => e (h1.trans z)
      have b : valueAt (q :: qs) k = valueAt qs k := by simp [valueAt, List.find?_cons, e']
      rw [valV_neg e, b]; exact ih
theorem KV.any {kvs : List (κ × V)} {vs : List (κ × Value)} (r : KV kvs vs) (k : κ) : (kvs.any fun kv => decide (kv.1 = k)) = vs.any fun kv => decide (kv.1 = k) := by
  unfold KV at r
  induction r with
  | nil => rfl
  | cons h t ih => rw [List.any_cons, List.any_cons, ih, h.1]
theorem KV.repl {kvs : List (κ × V)} {vs : List (κ × Value)} (r : KV kvs vs) (k : κ) {y : V} {u : Value} (ry : RelV y u) :
    KV (kvs.map fun kv => if kv.1 = k then (kv.1, y) else kv) (vs.map fun kv => if kv.1 = k then (kv.1, u) else kv) := by
  unfold KV at r ⊢
  induction r with
  | nil => exact .nil
  | @cons p q ps qs h t ih =>
    rw [List.map_cons, List.map_cons]
    refine .cons ?_ ih
    obtain ⟨h1, h2⟩ := h
    by_cases e : p.1 = k
    · rw [if_pos e, if_pos (h1.symm.trans e)]; exact ⟨h1, ry⟩
    · rw [if_neg e, if_neg (fun z => e (h1.trans z))]; exact ⟨h1, h2⟩
theorem KV.put {kvs : List (κ × V)} {vs : List (κ × Value)} (r : KV kvs vs) (k : κ) {y : V} {u : Value} (ry : RelV y u) : KV (putK kvs k y) (stored vs k u) := by
  unfold putK stored
  rw [r.any k]
  by_cases e : (vs.any fun kv => decide (kv.1 = k)) = true
  · rw [if_pos e, if_pos e]; exact r.repl k ry
  · rw [if_neg e, if_neg e]; exact Paired.snoc r ⟨rfl, ry⟩
theorem KV.keys {kvs : List (κ × V)} {vs : List (κ × Value)} (r : KV kvs vs) : kvs.map (·.1) = vs.map (·.1) := by
  unfold KV at r
  induction r with
  | nil => rfl
  | cons h t ih => rw [List.map_cons, List.map_cons, ih, h.1]
theorem KV.length {kvs : List (κ × V)} {vs : List (κ × Value)} (r : KV kvs vs) : kvs.length = vs.length := Paired.length r
end


theorem kV_is {P : Program} {w : World} {k : Key} {u : Value} (r : RelV (kV k) u) : (mixKind P w).is k u = true := by
  cases k with
  | inl i => obtain ⟨t, e⟩ := (show ∃ t, u = Value.int i t from r); subst e; exact mixKind_int P w i t
  | inr x => obtain ⟨t, e⟩ := (show ∃ t, u = Value.str x t from r); subst e; exact mixKind_str P w x t
theorem items_are {P : Program} {w : World} : ∀ {ks : List Key} {us : List Value}, Vals (ks.map kV) us → ItemsAre (mixKind P w) ks us
  | [], _, r => by rw [List.map_nil] at r; cases r; exact .nil
  | k :: ks, _, r => by
    rw [List.map_cons] at r
    cases r with
    | cons h t => exact .cons (kV_is h) (items_are t)

/-- raw entries of a dict with tuple keys -/
abbrev KT (H : Hp) : List (List Key × V) → List (List Key × Addr × Value) → Prop := Paired fun p q => p.1 = q.1 ∧ H q.2.1 = some (.tup (p.1.map kV)) ∧ RelV p.2 q.2.2
theorem KT.val {H : Hp} {kvs : List (List Key × V)} {xs : List (List Key × Addr × Value)} (r : KT H kvs xs) (k : List Key) : RelO (valV kvs k) ((atKey xs k).map (·.2)) := by
  induction r with
  | nil => exact True.intro
  | @cons p q ps qs h t ih =>
    obtain ⟨h1, _, h2⟩ := h
    by_cases e : p.1 = k
    · have e' : q.1 = k := h1.symm.trans e
      have b : atKey (q :: qs) k = some q.2 := by simp [atKey, List.find?_cons, e']
      rw [valV_pos e, b]; exact h2
    · have e' : ¬ q.1 = k := fun z => e (h1.trans z)
      have b : atKey (q :: qs) k = atKey qs k := by simp [atKey, List.find?_cons, e']
      rw [valV_neg e, b]; exact ih
theorem KT.repl {H : Hp} {kvs : List (List Key × V)} {xs : List (List Key × Addr × Value)} (r : KT H kvs xs) (k : List Key) {y : V} {u : Value} (ry : RelV y u) :
    KT H (kvs.map fun kv => if kv.1 = k then (kv.1, y) else kv) (xs.map (putAt k u)) := by
  induction r with
  | nil => exact .nil
  | @cons p q ps qs h t ih =>
    rw [List.map_cons, List.map_cons]
    refine .cons ?_ ih
    obtain ⟨h1, h2, h3⟩ := h
    unfold putAt
    by_cases e : p.1 = k
    · rw [if_pos e, if_pos (h1.symm.trans e)]; exact ⟨h1, h2, ry⟩
    · rw [if_neg e, if_neg (fun z => e (h1.trans z))]; exact ⟨h1, h2, h3⟩
theorem KT.put {H : Hp} {kvs : List (List Key × V)} {xs : List (List Key × Addr × Value)} (r : KT H kvs xs) (k : List Key) {b : Addr} {y : V} {u : Value} (hb : H b = some (.tup (k.map kV))) (ry : RelV y u) :
    KT H (putK kvs k y) (storedH xs k b u) := by
  have e : (kvs.any fun kv => decide (kv.1 = k)) = (atKey xs k).isSome := by
    rw [valV_any, (r.val k).isSome_eq, Option.isSome_map]
  unfold putK storedH
  rw [e]
  by_cases q : (atKey xs k).isSome = true
  · rw [if_pos q, if_pos q]; exact r.repl k ry
  · rw [if_neg q, if_neg q]; exact Paired.snoc r ⟨rfl, hb, ry⟩
theorem KT.keeps {H H' : Hp} {kvs : List (List Key × V)} {xs : List (List Key × Addr × Value)} (r : KT H kvs xs) (ht : ∀ b ys, H b = some (.tup ys) → H' b = some (.tup ys)) : KT H' kvs xs :=
  Paired.mapP r fun _ _ z => ⟨z.1, ht _ _ z.2.1, z.2.2⟩

section
variable {P : Program} {w : World} {H : Hp} {h : Heap} {a : Addr}
theorem rd_of {u : HO} (ok : HOk P w H h) (e : Rd H a u) : ObjOk P w H h a u := e.ok ok
theorem dk_rd {kvs : List (Key × V)} (ok : HOk P w H h) (e : Rd H a (.dK kvs)) : kvs.length ≤ sizeLine ∧ (a == sysModules) = false ∧ ∃ vs, KV kvs vs ∧ h.DictOf (mixKind P w) a vs :=
  show ObjOk P w H h a (.dK kvs) from rd_of ok e
theorem dk_of {kvs : List (Key × V)} (ok : HOk P w H h) (e : H a = some (.dK kvs)) : kvs.length ≤ sizeLine ∧ (a == sysModules) = false ∧ ∃ vs, KV kvs vs ∧ h.DictOf (mixKind P w) a vs := dk_rd ok (.inl e)
/-- a tracked tuple of ints and texts is a key -/
theorem key_of {ks : List Key} (ok : HOk P w H h) (e : H a = some (.tup (ks.map kV))) : (tupleKind (mixKind P w)).is h ks a := by
  obtain ⟨_, its, r, o, h1, h2, n, h3⟩ := (show ObjOk P w H h a (.tup (ks.map kV)) from ok a _ e)
  exact ⟨o, its.toArray, n, h1, h2, h3, by simpa using items_are r⟩
theorem dt_rd {kvs : List (List Key × V)} (ok : HOk P w H h) (e : Rd H a (.dT kvs)) : kvs.length ≤ sizeLine ∧ (a == sysModules) = false ∧
    ∃ xs, KT H kvs xs ∧ h.DictOfH (tupleKind (mixKind P w)) a xs := by
  obtain ⟨z, y, xs, r, o, es, ep, h1, h2, h3, h4, h5⟩ := (show ObjOk P w H h a (.dT kvs) from rd_of ok e)
  refine ⟨z, y, xs, r, o, es, ep, h1, h2, h3, h4, fun x hx => ?_, h5⟩
  have all : ∀ {l : List (List Key × V)} {m : List (List Key × Addr × Value)}, KT H l m → ∀ x ∈ m, (tupleKind (mixKind P w)).is h x.1 x.2.1 := by
    intro l m q
    induction q with
    | nil => intro x hx; exact nomatch hx
    | @cons p q ps qs hq t ih =>
      intro x hx
      rcases List.mem_cons.mp hx with e | hx
      · subst e
        exact key_of ok (by rw [← hq.1]; exact hq.2.1)
      · exact ih x hx
  exact all r x hx
theorem dt_of {kvs : List (List Key × V)} (ok : HOk P w H h) (e : H a = some (.dT kvs)) : kvs.length ≤ sizeLine ∧ (a == sysModules) = false ∧
    ∃ xs, KT H kvs xs ∧ h.DictOfH (tupleKind (mixKind P w)) a xs := dt_rd ok (.inl e)
end

/-- what the dict at a holds at the key y -/
def DGet (H : Hp) (a : Addr) (y : V) (r : Option V) : Prop :=
  (∃ kvs k, Rd H a (.dK kvs) ∧ y = kV k ∧ r = valV kvs k) ∨ ∃ kvs k b, Rd H a (.dT kvs) ∧ y = .ref b ∧ H b = some (.tup (k.map kV)) ∧ r = valV kvs k
/-- the heap behind a[y] = v -/
def DPut (H : Hp) (a : Addr) (y v : V) (H' : Hp) : Prop :=
  (∃ kvs k, H a = some (.dK kvs) ∧ y = kV k ∧ kvs.length < sizeLine ∧ H' = upd H a (.dK (putK kvs k v))) ∨
  ∃ kvs k b, H a = some (.dT kvs) ∧ y = .ref b ∧ H b = some (.tup (k.map kV)) ∧ kvs.length < sizeLine ∧ H' = upd H a (.dT (putK kvs k v))
theorem DGet.k {H : Hp} {a : Addr} {kvs : List (Key × V)} {k : Key} (e : H a = some (.dK kvs)) : DGet H a (kV k) (valV kvs k) := .inl ⟨kvs, k, .inl e, rfl, rfl⟩
theorem DPut.k {H : Hp} {a : Addr} {kvs : List (Key × V)} {k : Key} {v : V} (e : H a = some (.dK kvs)) (hl : kvs.length < sizeLine) : DPut H a (kV k) v (upd H a (.dK (putK kvs k v))) := .inl ⟨kvs, k, e, rfl, hl, rfl⟩
section
variable {X : Cx} {pins : List (Addr × Obj)} {σ : St} {H : Hp} {s : Shared} {a : Addr} {y v : V} {u r : Value} {o : Option V} {A : Around} {E : Value → Shared → Prop}

theorem Inv.big (I : Inv X pins σ H s) : sysModules < s.heap.objs.size := by
  have h : mainGlobals < s.heap.objs.size := (I.mod.glob.keeps I.bk).lt
  exact Nat.lt_trans (by decide) h

theorem d_notIn {Q : Value → Shared → Prop} (hu : A.units + 1 < cLine) (I : Inv X pins σ H s) (g : DGet H a y o) (ry : RelV y u) (h : ∀ s', Inv X pins σ H s' → Q (.bool (!o.isSome)) s') :
    wpAny (model X.prog X.w) A (compareOp .NotIn u (.ref a)) Q E s := by
  rcases g with ⟨kvs, k, e, ey, l⟩ | ⟨kvs, k, b, e, ey, eb, l⟩
  · subst ey
    obtain ⟨z, hd, vs, rel, dd⟩ := dk_rd I.hok e
    refine wpAny_notIn_of (kV_is ry) hd dd.mapOf ?_
    rw [← (rel.val k).isSome_eq, ← l]
    exact h _ (I.tok _)
  · subst ey
    cases (show u = Value.ref b from ry)
    obtain ⟨z, hd, xs, rel, dd⟩ := dt_rd I.hok e
    refine wpAny_notIn_heap (tupleKind_room_in1 hu) (key_of I.hok eb) hd dd ?_
    have q := (rel.val k).isSome_eq
    rw [Option.isSome_map] at q
    rw [← q, ← l]
    exact h _ (I.tok _)
/-- a dict's object is replaced -/
theorem d_write {h' : Heap} {t' : Nat} {ob : HO} (I : Inv X pins σ H s) (mu : Mut (H a)) (hs : Heap.SameBut a s.heap h') (he : ∃ q, h'.get? a = some q) (new : ObjOk X.prog X.w (upd H a ob) h' a ob) :
    Inv X pins σ (upd H a ob) { s with heap := h', toks := t' } :=
  I.write (x := a) (e := a) mu (.inl rfl) (fun b q hb z => (hs.2 b hb).trans z) he new
theorem dk_new {P : Program} {w : World} {H' : Hp} {h' : Heap} {kvs : List (Key × V)} {vs : List (Key × Value)} (z : kvs.length ≤ sizeLine) (hd : (a == sysModules) = false) (rel : KV kvs vs) (dd : h'.DictOf (mixKind P w) a vs) :
    ObjOk P w H' h' a (.dK kvs) := ⟨z, hd, vs, rel, dd⟩
/-- d[y] = v -/
theorem d_setItem {H' : Hp} {Q : Unit → Shared → Prop} (hu : A.units + 1 < cLine) (I : Inv X pins σ H s) (g : DPut H a y v H') (ry : RelV y u) (rv : RelV v r) (h : ∀ s', Inv X pins σ H' s' → Q () s') :
    wpAny (model X.prog X.w) A (setItem (.ref a) u r) Q E s := by
  rcases g with ⟨kvs, k, e, ey, l, eH⟩ | ⟨kvs, k, b, e, ey, eb, l, eH⟩
  · subst ey eH
    obtain ⟨z, hd, vs, rel, dd⟩ := dk_of I.hok e
    have hz : vs.length ≤ sizeLine := by rw [← rel.length]; exact z
    have hl : (putK kvs k v).length ≤ sizeLine := by have := length_putK kvs k v; omega
    refine wpAny_setItem_pairs (hsz := hz) (kV_is ry) dd fun h' dd' hs => h _ ?_
    have he : ∃ q, h'.get? a = some q := let ⟨q, _, _, hq, _⟩ := dd'; ⟨q, hq⟩
    exact d_write I (by rw [e]; exact True.intro) hs he (dk_new hl hd (rel.put k rv) dd')
  · subst ey eH
    cases (show u = Value.ref b from ry)
    obtain ⟨z, hd, xs, rel, dd⟩ := dt_of I.hok e
    have hz : xs.length ≤ sizeLine := by rw [← Paired.length rel]; exact z
    have hl : (putK kvs k v).length ≤ sizeLine := by have := length_putK kvs k v; omega
    refine wpAny_setItem_heap (hsz := hz) (tupleKind_room_in1 hu) (key_of I.hok eb) dd fun h' dd' hs => h _ ?_
    obtain ⟨q, es, ep, hq, h2, h3, h4, _, h5⟩ := dd'
    refine d_write I (by rw [e]; exact True.intro) hs ⟨q, hq⟩ ⟨hl, hd, _, (rel.put k eb rv).keeps fun c ys ec => ?_, q, es, ep, hq, h2, h3, h4, h5⟩
    rw [upd_ne (ne_of ec e (fun z => nomatch z))]
    exact ec
end

section
variable {X : Cx} {pins : List (Addr × Obj)} {σ : St} {H : Hp} {s : Shared} {a : Addr} {kvs : List (Key × V)} {k : Key} {u : Value} {A : Around} {E : Value → Shared → Prop}
end


def tDNotIn (ty td : TE) : TE := fun σ H Q => ty σ H fun y H1 => td σ H1 fun x H2 => ∃ a o, x = .ref a ∧ DGet H2 a y o ∧ Q (.bl (!o.isSome)) H2
/-- d[y] = v -/
def sDPut (td ty tv : TE) : TS := fun D σ H => tv σ H fun v H1 => td σ H1 fun x H2 => ty σ H2 fun y H3 => ∃ a H4, x = .ref a ∧ DPut H3 a y v H4 ∧ D.nx σ H4
section
variable {X : Cx} {o i e value : Expr} {pos pos' tpos : Pos} {td ty tv : TE}
theorem pc_dnotin (hu : X.A.units + 1 < cLine) (hi : PE X i ty) (ho : PE X o td) : PC X .NotIn i o (tDNotIn ty td) := by
  intro pins s σ H Q I h
  refine thn (hi pins s σ H _ I h) fun iv s1 ⟨y, H1, I1, ry, q1⟩ => thn (ho pins s1 σ H1 _ I1 q1) fun u s2 ⟨x, H2, I2, rx, a, ov, ex, g, q2⟩ => ?_
  subst ex
  obtain rfl : u = Value.ref a := rx
  exact d_notIn hu I2 g ry fun s3 I3 => ⟨.bl (!ov.isSome), H2, I3, rfl, q2⟩
theorem ps_dput (hu : X.A.units + 1 < cLine) (ho : PE X o td) (hi : PE X i ty) (hv : PE X value tv) (hs : swapsWith value (some (.Subscript o i pos')) pos.line X.env = pure false) :
    PS X (.Assign [.Subscript o i pos'] value pos) (sDPut td ty tv) := by
  intro pins s σ H D I h
  refine wpAny_Assign_Subscript (thn (hv pins s σ H _ I h) fun r s1 ⟨v, H1, I1, rv, q1⟩ => thn (ho pins s1 σ H1 _ I1 q1) fun u s2 ⟨x, H2, I2, rx, q2⟩ => thn (hi pins s2 σ H2 _ I2 q2) fun iv s3 ⟨y, H3, I3, ry, a, H4, ex, g, q3⟩ => ?_) hs
  subst ex
  obtain rfl : u = Value.ref a := rx
  exact d_setItem hu I3 g ry rv fun s4 I4 => ⟨σ, H4, I4, q3⟩
end


theorem dk_empty {P : Program} {w : World} {H : Hp} (h : Heap) (hb : sysModules < h.objs.size) : ObjOk P w H (h.push { cls := .type "dict", data := .dict #[] }) h.objs.size (.dK []) :=
  ⟨Nat.zero_le _, beq_eq_false_iff_ne.mpr (Ne.symm (Nat.ne_of_lt hb)), [], .nil, Heap.DictOf.new h⟩
/-- {}, to be a dict of the kind that is wanted -/
def tDNewK : TE := fun _ H Q => ∀ p, H p = none → Q (.ref p) (upd H p (.dK []))
section
variable {X : Cx} {pos : Pos}
theorem pe_dnewK : PE X (.Dict [] [] pos) tDNewK := fun pins s σ H Q I h =>
  wpAny_Dict_empty ⟨.ref s.heap.objs.size, _, I.laid (a := s.heap.objs.size) (o := .dK []) (t' := s.toks) (fun _ _ q => Heap.get?_push_of_some _ q) (Nat.le_refl _) (dk_empty s.heap I.big), rfl, h _ (I.hok.fresh (Nat.le_refl _))⟩
end

/-- the pairs of a display, from the left -/
def tPairs : List (TE × TE) → St → Hp → (List (V × V) → Hp → Prop) → Prop
  | [], _, H, Q => Q [] H
  | (tk, tv) :: r, σ, H, Q => tk σ H fun x H1 => tv σ H1 fun y H2 => tPairs r σ H2 fun ps H3 => Q ((x, y) :: ps) H3
abbrev VV : List (V × V) → List (Value × Value) → Prop := Paired fun p q => RelV p.1 q.1 ∧ RelV p.2 q.2
def PPs (X : Cx) (pos : Pos) (keys : List (Option Expr)) (values : List Expr) (trs : List (TE × TE)) : Prop :=
  ∀ (pins : List (Addr × Obj)) (s : Shared) (σ : St) (H : Hp) (Q : List (V × V) → Hp → Prop), Inv X pins σ H s → tPairs trs σ H Q →
    wpAny (model X.prog X.w) X.A (evalPairs (pairTrees keys values X.env pos)) (fun vs s' => ∃ ps H', Inv X pins σ H' s' ∧ VV ps vs ∧ Q ps H') X.xe s
theorem pps_nil {X : Cx} {pos : Pos} : PPs X pos [] [] [] := fun pins s σ H Q I h => pairTrees_nil_walk ⟨[], H, I, .nil, h⟩
theorem pps_cons {X : Cx} {pos : Pos} {k v : Expr} {ks : List (Option Expr)} {vs : List Expr} {tk tv : TE} {trs : List (TE × TE)} (hk : PE X k tk) (hv : PE X v tv) (hr : PPs X pos ks vs trs) :
    PPs X pos (some k :: ks) (v :: vs) ((tk, tv) :: trs) := fun pins s σ H Q I h =>
  pairTrees_cons_walk (thn (hk pins s σ H _ I h) fun u s1 ⟨x, H1, I1, rx, q1⟩ => thn (hv pins s1 σ H1 _ I1 q1) fun w2 s2 ⟨y, H2, I2, ry, q2⟩ =>
    thn (hr pins s2 σ H2 _ I2 q2) fun ws s3 ⟨ps, H3, I3, rel, q3⟩ => ⟨(x, y) :: ps, H3, I3, .cons ⟨rx, ry⟩ rel, q3⟩)

def mergeK (kvs more : List (Key × V)) : List (Key × V) := more.foldl (fun acc kv => putK acc kv.1 kv.2) kvs
theorem KV.merge : ∀ {more : List (Key × V)} {rs : List (Key × Value)} {kvs : List (Key × V)} {vs : List (Key × Value)}, KV more rs → KV kvs vs → KV (mergeK kvs more) (merged vs rs) := by
  intro more rs kvs vs r
  unfold KV at r
  induction r generalizing kvs vs with
  | nil => intro q; exact q
  | @cons p q ps qs h t ih =>
    intro r0
    have e : KV (putK kvs p.1 p.2) (stored vs q.1 q.2) := by
      have := r0.put p.1 h.2
      rw [← h.1]; exact this
    exact ih e
theorem length_mergeK : ∀ (more kvs : List (Key × V)), (mergeK kvs more).length ≤ kvs.length + more.length
  | [], kvs => by show kvs.length ≤ kvs.length + 0; omega
  | p :: r, kvs => by
    have h1 := length_mergeK r (putK kvs p.1 p.2)
    have h2 := length_putK kvs p.1 p.2
    show (mergeK (putK kvs p.1 p.2) r).length ≤ _
    rw [List.length_cons]; omega
theorem carries_of {P : Program} {w : World} : ∀ {kvs : List (Key × V)} {ws : List (Value × Value)}, VV (kvs.map fun kv => (kV kv.1, kv.2)) ws → ∃ rs, Carries (mixKind P w) ws rs ∧ KV kvs rs
  | [], _, r => by rw [List.map_nil] at r; cases r; exact ⟨[], True.intro, .nil⟩
  | p :: kvs, _, r => by
    rw [List.map_cons] at r
    cases r with
    | @cons a b as bs h t =>
      obtain ⟨rs, c, q⟩ := carries_of (P := P) (w := w) t
      obtain ⟨b1, b2⟩ := b
      exact ⟨(p.1, b2) :: rs, ⟨kV_is h.1, rfl, c⟩, .cons ⟨rfl, h.2⟩ q⟩
/-- {k: v, ..} with keys ints and texts; the new dict stands empty while the pairs are made -/
def tDisp (trs : List (TE × TE)) : TE := fun σ H Q => ∀ p, H p = none → tPairs trs σ (upd H p (.dK [])) fun ps H2 => H2 p = some (.dK []) ∧ ∃ kvs : List (Key × V), ps = kvs.map (fun kv => (kV kv.1, kv.2)) ∧ kvs.length ≤ 15 ∧ Q (.ref p) (upd H2 p (.dK (mergeK [] kvs)))
theorem pe_disp {X : Cx} {pos : Pos} {keys : List (Option Expr)} {values : List Expr} {trs : List (TE × TE)} (h : PPs X pos keys values trs) (hall : keys.all (·.isSome) = true) (hl : keys.length = values.length) (h0 : keys ≠ [])
    (h15 : keys.length ≤ 15) : PE X (.Dict keys values pos) (tDisp trs) := by
  intro pins s σ H Q I q
  have hn := I.hok.fresh (Nat.le_refl s.heap.objs.size)
  have I1 := I.laid (a := s.heap.objs.size) (o := .dK []) (h' := s.heap.push { cls := .type "dict", data := .dict #[] }) (t' := s.toks) (fun _ _ q => Heap.get?_push_of_some _ q) (Nat.le_refl _) (dk_empty s.heap I.big)
  refine wpAny_Dict_walk (knd := mixKind X.prog X.w) hall hl h0 h15 (thn (h pins _ σ _ _ I1 (q _ hn)) fun ws s2 ⟨ps, H2, I2, rel, e, kvs, ep, lk, q2⟩ => ?_)
  subst ep
  obtain ⟨rs, c, rk⟩ := carries_of (P := X.prog) (w := X.w) rel
  obtain ⟨z, hd, vs0, r0, dd⟩ := dk_of I2.hok e
  cases r0
  refine ⟨rs, c, dd, fun h' dd' hs => ⟨.ref s.heap.objs.size, _, ?_, rfl, q2⟩⟩
  have hz : (mergeK [] kvs).length ≤ sizeLine := by
    have h1 := length_mergeK kvs []
    rw [List.length_nil] at h1
    rw [sizeLine_eq]; omega
  have he : ∃ q, h'.get? s.heap.objs.size = some q := let ⟨q, _, _, hq, _⟩ := dd'; ⟨q, hq⟩
  exact d_write I2 (by rw [e]; exact True.intro) hs he (dk_new hz hd (rk.merge .nil) dd')


section
variable {X : Cx} {pins : List (Addr × Obj)} {σ : St} {H : Hp} {s : Shared} {a : Addr} {y d : V} {u r : Value} {o : Option V} {A : Around} {E : Value → Shared → Prop}
end

section
variable {X : Cx} {o e f : Expr} {apos cpos : Pos} {td ty tx : TE}
end

section
variable {X : Cx} {pins : List (Addr × Obj)} {σ : St} {H : Hp} {s : Shared} {a : Addr} {kvs : List (Key × V)} {A : Around} {E : Value → Shared → Prop}
end


section
variable {X : Cx} {pins : List (Addr × Obj)} {σ : St} {H : Hp} {s : Shared} {a : Addr} {y : V} {u : Value} {A : Around} {E : Value → Shared → Prop}
end
end L2

namespace Att
open PySem PySem.W PySem.Calls PyProof.Rows

theorem ints_of_wellAll {P : Params} {h : Heap} : ∀ (ns : List Int) (vs : List Value), WellAll P h vs (ns.map WData.int) → IntsAre vs ns := by
  intro ns
  induction ns with
  | nil =>
    intro vs w
    rw [List.map_nil] at w
    cases w
    exact .nil
  | cons n ns ih =>
    intro vs w
    rw [List.map_cons] at w
    cases w with
    | cons a b =>
      cases a
      exact .cons _ _ (ih _ b)

theorem script_of {l : OpenLaw} {n : Nat} (hn : l.most = some n) {P : Params} {h : Heap} {args : List WData} {vals : List Value}
    (hpre : l.row.toRowW.claim.pre args = true) (hwl : WellAll P h vals args) :
    ∃ a vs ns, vals = [Value.ref a] ∧ args = [WData.list (ns.map WData.int)] ∧ h.get? a = some { cls := .type "list", data := .seq vs.toArray } ∧ IntsAre vs ns ∧ ns.length ≤ n := by
  have hsh : WShape.hasAll [] args [.list .int] = true := (pre_splitW hpre).1
  have hc : l.pre.holds [] { args := args } = true := (pre_splitW hpre).2
  obtain ⟨d, r, rfl, h1, h2⟩ := hasAllW_cons hsh
  obtain rfl := hasAllW_nil h2
  obtain ⟨xs, rfl, h3⟩ := hasW_list h1
  obtain ⟨ns, rfl⟩ := items_int h3
  have hlen : ns.length ≤ n := by
    unfold OpenLaw.pre at hc
    have h4 : (WTm.not (.lt (.lit (.int (n : Int))) (.len (.arg 0)))).holds [] { args := [.list (ns.map .int)] } = true := by
      have h4 := (holds_andW hc).1
      rw [hn] at h4
      exact h4
    have h5 := condW_of h4 (w_not (w_lt w_lit (w_len_list (w_arg rfl))))
    rw [List.length_map] at h5
    refine Nat.le_of_not_lt fun q => ?_
    have q' : (n : Int) < ((ns.length : Nat) : Int) := by omega
    first
      | (rw [decide_eq_true q'] at h5; exact absurd h5 (by decide))
      | (simp at h5; omega)
  cases hwl with
  | cons w1 w2 =>
    cases w2
    cases w1 with
    | list ho hall => exact ⟨_, _, ns, rfl, rfl, ho, ints_of_wellAll ns _ hall, hlen⟩

theorem post_true (l : OpenLaw) (args : List WData) : l.row.toRowW.claim.post args (.bool true) args = true :=
  postW_of (r := l.row.toRowW) (X := (true == true))
    (show WShape.has [] (.bool true) .bool = true by first | rfl | decide | simp [WShape.has, WShape.arms, WShape.armsAll])
    (show (WTm.eq .res (.lit (.bool true))).value [] { args := args, res := some (.bool true), after := args } = some (.bool (true == true)) from w_eq_bool (w_res rfl) w_lit) rfl

/-- the same from a codeAny of the CALL (for a layer whose function contracts speak of calls) -/
theorem attach_call {l : OpenLaw} {n : Nat} {q : Program} {loose : List Str} {XP : (Str → Option Value) → Heap → Prop} {YP : World → Heap → Prop} {d : DefRec}
    (hn : l.most = some n) (hdf : d.params.defaults = [])
    (call : ∀ (w : World) (s₀ s₁ : Shared) (mg mb : Str → Option Value) (fa : Addr) (o : Obj) (pm cd doc : Value) (a : Addr) (vs : List Value) (ns : List Int),
      Ground q loose [] XP w s₀ mg mb s₁.heap → YP w s₁.heap →
      s₁.heap.get? fa = some o → o.data = .func (docDef d.name d.params d.body d.scope pm cd doc) → s₁.heap.CodeRec cd d.name → mg d.name = some (.ref fa) →
      s₁.heap.get? a = some { cls := .type "list", data := .seq vs.toArray } → IntsAre vs ns → ns.length ≤ n → s₁.gens = #[] →
      codeAny (model l.prog w) callerA (.call (.ref fa) ⟨[.ref a], []⟩) (fun r s' => r = .ok (.ret (.bool true)) ∧ OldK s₁.heap s'.heap ∧ s'.os = s₁.os ∧ AllBare s'.gens) s₁) :
    WalkO q loose XP YP l.row.toRowW d [] (fun f vs => PySem.call f vs) := by
  intro w s₀ s₁ mg mb G Y fa o pm cd doc dV kV ho hd hcd hD hmg hg args vals as hpre hlay hrd hwl hlo
  obtain rfl : dV = .none := Dflts.none hD hdf
  obtain rfl : kV = .none := Dflts.noKw hD
  obtain ⟨a, vs, ns, rfl, rfl, hobj, hints, hlen⟩ := script_of hn hpre hwl
  refine enter_call (codeAny_mono (call w s₀ s₁ mg mb fa o pm cd doc a vs ns G Y ho (fd_plain hd) hcd hmg hobj hints hlen hg) fun r s' hq => ?_)
  obtain ⟨rfl, h2, h3, h4⟩ := hq
  exact ⟨.inl ⟨.bool true, .bool true, [], rfl, fun _ => rfl, .bool true, post_true l _, fun _ => ⟨List.Pairwise.nil, fun _ hm => (nomatch hm)⟩⟩, h2, h3, h4⟩

section
variable {prog : Program} {w : World} {A : Around} {E : Value → Shared → Prop} {s : Shared} {K : Frag}

end
end Att

namespace L2
open PySem PySem.Spec PyProof.Rows

theorem vals_ints : ∀ {vs : List Value} {ns : List Int}, IntsAre vs ns → Vals (ns.map V.int) vs
  | _, _, .nil => .nil
  | _, _, .cons n t h => .cons ⟨t, rfl⟩ (vals_ints h)

/-- nothing is tracked but the script, known to the object (or it is an object of the module) -/
def Only (H : Hp) : Prop := ∀ b, H b = none ∨ ∃ o xs, H b = some (.frz o (.lst xs))

/-- THE HEAD: the law's promise, at the heap behind the top. F, the promise of the law's def, may use that base is part of the heap (so K.In base, base.Ns mainGlobals mg stand in Mod) -/
theorem law_call {P : Program} {w : World} {K : PySem.W.Frag} {mg mb : Str → Option Value} {CX : CXT} {k : Nat} {fa a : Addr} {fd : FuncData} {x : Str} {sp : Sp} {s₁ : Shared} {vs : List Value} {ns : List Int}
    (KX : K.In s₁.heap) (hns : s₁.heap.Ns mainGlobals mg) (hb : s₁.heap.Ns builtinsNs mb) (hbb : ∀ x : Str, x ≠ "__name__" → mb x = bootBuiltins x) (hlim : s₁.heap.NoLimit) (hg : s₁.gens = #[])
    (ha : s₁.heap.get? a = some { cls := .type "list", data := .seq vs.toArray }) (hi : IntsAre vs ns) (hl : ns.length ≤ sizeLine) (hr : Room k callerA)
    (F : ∀ base : Heap, K.In base → base.Ns mainGlobals mg → FnOk P w K mg base CX k fa fd [x] sp) (hbind : ∀ (s : Shared) (u : Value), BindsTo s fd ⟨[u], []⟩ [(x, u)])
    (hsp : ∀ H : Hp, Only H → SqL K H a (ns.map V.int) → sp [.ref a] H (fun v _ => v = .bl true) fun _ _ _ => False)
    (hCX : ∀ H e s', CX [] H s₁ (fun _ _ _ => False) e s' → False) :
    codeAny (model P w) callerA (.call (.ref fa) ⟨[.ref a], []⟩) (fun r s' => r = .ok (.ret (.bool true)) ∧ OldK s₁.heap s'.heap ∧ s'.os = s₁.os ∧ AllBare s'.gens) s₁ := by
  have rv := vals_ints hi
  have lenV := hi.length
  -- from an abstract heap in which nothing but the script may be tracked
  have core : ∀ H : Hp, Only H → SqL K H a (ns.map V.int) → HOk P w H s₁.heap → (∀ b, H b ≠ none → b = a) → (H a ≠ none → K.lookup a = none) →
      codeAny (model P w) callerA (.call (.ref fa) ⟨[.ref a], []⟩) (fun r s' => r = .ok (.ret (.bool true)) ∧ OldK s₁.heap s'.heap ∧ s'.os = s₁.os ∧ AllBare s'.gens) s₁ := by
    intro H hO hS hok hA hK
    have base_of : ∀ {b : Addr} {o : Obj}, s₁.heap.get? b = some o → H b = none → (hidT s₁.heap H).get? b = some o := fun e n => hidT_get e n
    have noA : ∀ {b : Addr} {o : Obj} {es : Array DictEntry} {ep : Nat}, s₁.heap.get? b = some o → o.data = .dict es ep → H b = none := fun {b o es ep} e d => by
      cases q : H b with
      | none => rfl
      | some u =>
        have e' : b = a := hA b (by rw [q]; simp)
        subst e'
        rw [ha] at e; cases e
        have d' : Data.seq vs.toArray _ = Data.dict es ep := d
        cases d'
    have nsK : ∀ {b : Addr} {m : Str → Option Value}, s₁.heap.Ns b m → (hidT s₁.heap H).Ns b m := fun {b m} ⟨o, es, ep, e, d, r⟩ => ⟨o, es, ep, base_of e (noA e d), d, r⟩
    have hKb : K.In (hidT s₁.heap H) := fun b o e => base_of (KX b o e) (by
      cases q : H b with
      | none => rfl
      | some u =>
        have e' : b = a := hA b (by rw [q]; simp)
        subst e'
        rw [hK (by rw [q]; simp)] at e; cases e)
    have hM : Mod K mg (hidT s₁.heap H) := ⟨hKb, nsK hns, ⟨mb, nsK hb, hbb⟩, let ⟨mc, h1, h2⟩ := hlim; ⟨mc, nsK h1, h2⟩⟩
    have e0 : Env0 P w K mg (hidT s₁.heap H) callerA [] s₁ H := ⟨rfl, hM, fun b o e => of_hidT e, Nat.le_of_eq (hidT_size _ _), trivial, fun b hb => absurd (show b ∈ ([] : List Addr) from hb) (by simp), hok, .of_eq hg⟩
    refine codeAny_mono ((F _ hKb (nsK hns)).run callerA [] s₁ H ⟨[.ref a], []⟩ [.ref a] [.ref a] _ _ hr e0 (hbind s₁ (.ref a)) (.cons rfl .nil) (hsp H hO hS)) fun r s' h => ?_
    cases r with
    | error e => exact (hCX H e s' h).elim
    | ok fl =>
      cases fl with
      | next => exact False.elim h
      | brk => exact False.elim h
      | cont => exact False.elim h
      | ret u =>
        obtain ⟨v, H', os, bare, un, hok', r', q⟩ := h
        have q' : v = .bl true := q
        subst q'
        obtain rfl : u = Value.bool true := r'
        refine ⟨rfl, OldK.of_keep fun b o e => ?_, os, bare⟩
        cases q : H b with
        | none => exact un.keep b o e q (by intro z; exact absurd (show b ∈ ([] : List Addr) from z) (by simp)) (by simp)
        | some u =>
          rcases hO b with z | ⟨ob, xs, z⟩
          · rw [q] at z; cases z
          · have z2 := un.frzs b ob _ z
            obtain ⟨e1, _⟩ := hok b _ z
            obtain ⟨e2, _⟩ := hok' b _ z2
            rw [e] at e1; cases e1
            exact e2
  cases hk : K.lookup a with
  | some o =>
    -- the script is one of the module's own objects
    have e := KX a o hk
    rw [ha] at e
    cases e
    refine core (fun _ => none) (fun _ => .inl rfl) (.inr ⟨_, vs.toArray, _, hk, rfl, rfl, rfl, by rw [List.size_toArray, lenV]; exact hl, by simpa using rv⟩) (fun b u z => by have z' : (none : Option HO) = some u := z; cases z') (fun b z => absurd rfl z) fun z => absurd rfl z
  | none =>
    refine core (fun b => if b = a then some (.frz { cls := .type "list", data := .seq vs.toArray } (.lst (ns.map V.int))) else none) (fun b => ?_) (.inl (.inr ⟨{ cls := .type "list", data := .seq vs.toArray }, if_pos rfl⟩)) (fun b u z => ?_) (fun b z => ?_) fun _ => hk
    · by_cases hb : b = a
      · exact .inr ⟨_, _, if_pos hb⟩
      · exact .inl (if_neg hb)
    · by_cases hb : b = a
      · have z' := (if_pos hb).symm.trans z
        cases z'
        subst hb
        exact ⟨ha, by rw [List.length_map]; exact hl, vs, _, rv, ha⟩
      · have z' := (if_neg hb).symm.trans z
        cases z'
    · by_cases hb : b = a
      · exact hb
      · exact absurd (if_neg hb) z
end L2

namespace L2
open PySem PySem.Spec PyProof.Rows

abbrev KOf {K : PySem.W.Frag} {h : Heap} (_ : K.In h) : PySem.W.Frag := K

/-- the goal that k_head leaves (case hc), from the law's promise. F gives the function object fd (K's own) once, then the promise over every base -/
theorem walk_of {l : PySem.W.OpenLaw} {n k : Nat} {q : Program} {loose : List Str} {XP : (Str → Option Value) → Heap → Prop} {YP : World → Heap → Prop} {d : DefRec} {K : Params → PySem.W.Frag} {CX : World → CXT} {sp : World → Sp} {x : Str}
    (hn : l.most = some n) (hn2 : n ≤ sizeLine) (hdf : d.params.defaults = []) (hr : Room k callerA)
    (hY : ∀ (w : World) (h : Heap), YP w h → (K w.params).In h)
    (F : ∀ (w : World) (mg : Str → Option Value) (fa : Addr) (h : Heap), (K w.params).In h → h.Ns mainGlobals mg → mg d.name = some (.ref fa) →
      ∃ fd : FuncData, (∀ (s : Shared) (u : Value), BindsTo s fd ⟨[u], []⟩ [(x, u)]) ∧
        ∀ base : Heap, (K w.params).In base → base.Ns mainGlobals mg → FnOk l.prog w (K w.params) mg base (CX w) k fa fd [x] (sp w))
    (hsp : ∀ (w : World) (H : Hp) (a : Addr) (ns : List Int), ns.length ≤ n → Only H → SqL (K w.params) H a (ns.map V.int) → sp w [.ref a] H (fun v _ => v = .bl true) fun _ _ _ => False)
    (hCX : ∀ (w : World) (H : Hp) (s : Shared) (e : Value) (s' : Shared), CX w [] H s (fun _ _ _ => False) e s' → False) :
    PySem.W.WalkO q loose XP YP l.row.toRowW d [] (fun f vs => PySem.call f vs) := by
  refine Att.attach_call hn hdf fun w s₀ s₁ mg mb fa o pm cd doc a vs ns G Y ho hd hcd hmg hobj hints hlen hg => ?_
  have KX := hY w _ Y
  obtain ⟨fd, hb, hF⟩ := F w mg fa _ KX G.T.g hmg
  exact law_call KX G.T.g G.T.b G.T.builtins G.T.nolimit hg hobj hints (Nat.le_trans hlen hn2) hr hF hb (fun H hO hS => hsp w H a ns hlen hO hS) fun H e s' => hCX w H s₁ e s'
end L2


namespace L2
open PySem PySem.Spec PyProof.Rows

def defArgs (s : Stmt) : Arguments := match s with
  | .FunctionDef _ a _ _ _ _ _ _ _ _ => a
  | _ => { posonlyargs := [], args := [], vararg := none, kwonlyargs := [], kw_defaults := [], kwarg := none, defaults := [] }
def defBody (s : Stmt) : List Stmt := match s with
  | .FunctionDef _ _ b _ _ _ _ _ _ _ => b
  | _ => []
def defScope (s : Stmt) : Scope := match s with
  | .FunctionDef _ _ _ _ _ _ sc _ _ _ => sc
  | _ => { kind := .function, names := [], isGenerator := false, isCoroutine := false }

abbrev CX0 : CXT := fun _ _ _ _ _ _ => False
abbrev E0 : XK := fun _ _ _ => False
theorem pass0 {X : Cx} : Passes CX0 X E0 := fun _ _ _ _ _ _ _ h => h.elim

structure Fun (K : PySem.W.Frag) (x qual : Str) (st : Stmt) (f : Addr) (fd : FuncData) : Prop where
  ex : ∃ (oc : Value) (od : Option Addr) (kV doc pm : Value) (an : Option Addr) (cdv ct : Value) (osl : Array (Option Value)),
    fd = PySem.W.fnOf x qual (defArgs st) (defBody st) (defScope st) .none kV doc pm an cdv ct ∧ K.lookup f = some ⟨oc, od, .func fd, osl⟩ ∧ PySem.W.codeIn K cdv qual = true
  kp : PySem.W.keepIn K (.ref f) = true
section
variable {P : Program} {w : World} {K : PySem.W.Frag} {mg : Str → Option Value} {base : Heap}
/-- THE RULE for a def: its body as a term of rules, and the reading of that term -/
theorem Fun.ok {x qual : Str} {st : Stmt} {f : Addr} {fd : FuncData} {N ps : List Str} {k : Nat} {sp : Sp} (F : Fun K x qual st f fd) (S : FnScope N ps (defScope st)) (len : ∀ vs H Q E, sp vs H Q E → vs.length = ps.length)
    (hbody : ∀ (cdv : Value) (A : Around) (outer : List Env) (s : Shared) (H : Hp) (vs : List V) (Q : VK) (E : XK), Room k (A.deeper (envOfC qual (defScope st) s.heap.objs.size f cdv)) → sp vs H Q E →
      ∃ t, PSs (cxOf CX0 P w K mg base N qual (defScope st) f cdv A outer s H E).nox (defBody st) t ∧ t { nx := fun _ H' => Q .non H', rt := Q } (start N vs) H) : FnOk P w K mg base CX0 (k + 1) f fd ps sp := by
  obtain ⟨oc, od, kV, doc, pm, an, cdv, ct, osl, rfl, lk, hcd⟩ := F.ex
  refine fn_of lk hcd S len fun A outer s H vs Q E hr hsp => ?_
  obtain ⟨t, h, q⟩ := hbody cdv A outer s H vs Q E hr hsp
  exact ⟨t, h.nox, q⟩
/-- how its arguments bind (no defaults): h is «fun _ _ _ _ _ _ us hl => match us, hl with | [_, _], _ => rfl», one _ a parameter -/
theorem Fun.binds {x qual : Str} {st : Stmt} {f : Addr} {fd : FuncData} {ps : List Str} (F : Fun K x qual st f fd)
    (h : ∀ (kV doc pm : Value) (an : Option Addr) (cdv ct : Value) (us : List Value), us.length = ps.length → bindArgs (PySem.W.fnOf x qual (defArgs st) (defBody st) (defScope st) .none kV doc pm an cdv ct) ⟨us, []⟩ = pure (ps.zip us)) : Binds K fd ps [] := by
  obtain ⟨oc, od, kV, doc, pm, an, cdv, ct, osl, rfl, lk, hcd⟩ := F.ex
  exact .all (h kV doc pm an cdv ct)
theorem fun_mk {x qual : Str} {st : Stmt} {f : Addr} {oc : Value} {od an : Option Addr} {osl : Array (Option Value)} {kV doc pm cdv ct : Value} (l : K.lookup f = some ⟨oc, od, .func (PySem.W.fnOf x qual (defArgs st) (defBody st) (defScope st) .none kV doc pm an cdv ct), osl⟩)
    (c : PySem.W.codeIn K cdv qual = true) (k : PySem.W.keepIn K (.ref f) = true) : Fun K x qual st f (PySem.W.fnOf x qual (defArgs st) (defBody st) (defScope st) .none kV doc pm an cdv ct) := ⟨⟨oc, od, kV, doc, pm, an, cdv, ct, osl, rfl, l, c⟩, k⟩
end
theorem hu_of {A : Around} {k : Nat} (hr : Room k A) : A.units + 1 < cLine := Nat.lt_of_le_of_lt (Nat.add_le_add_left (by decide : 1 ≤ 64) _) hr.units
theorem small1000 {n : Nat} (h : n ≤ 1000) : n < sizeLine := Nat.lt_of_le_of_lt h (by decide)

section
variable {X : Cx}
theorem pv (i : Nat) {x : Str} {pos : Pos} (hN : X.N[i]? = some x := by rfl) (hv : Vis X.env.scope x := by first | exact Or.inl rfl | exact Or.inr (Or.inl rfl) | exact Or.inr (Or.inr rfl)) (hd : (x == ("__debug__" : Str)) = false := by decide)
    (hcd : (x == ("__classdict__" : Str)) = false := by decide) : PE X (.Name x pos) (tVar i) := pe_var hN hv hd hcd
end

theorem iteF {A B : Prop} (h : B) : if false = true then A else B := by
  rw [if_neg Bool.false_ne_true]
  exact h
theorem iteT {A B : Prop} (h : A) : if true = true then A else B := by
  rw [if_pos rfl]
  exact h
theorem ite2 {c A B : Prop} [Decidable c] (h1 : c → A) (h2 : ¬ c → B) : if c then A else B := by
  by_cases h : c
  · rw [if_pos h]
    exact h1 h
  · rw [if_neg h]
    exact h2 h
/-- all that was tracked is as it was -/
def Same (H H' : Hp) : Prop := ∀ b o, H b = some o → H' b = some o
theorem Same.refl (H : Hp) : Same H H := fun _ _ h => h
theorem Same.trans {H H1 H2 : Hp} (a : Same H H1) (b : Same H1 H2) : Same H H2 := fun c o h => b c o (a c o h)
theorem Same.free {H H' : Hp} (e : Same H H') {l : Addr} (h : H' l = Option.none) : H l = Option.none := by
  cases q : H l with
  | none => rfl
  | some o =>
    rw [e l o q] at h
    cases h
theorem Same.seq {K : PySem.W.Frag} {H H' : Hp} {a : Addr} {xs : List V} (e : Same H H') (h : SqL K H a xs) : SqL K H' a xs := by
  rcases h with (h | ⟨o, h⟩) | h
  · exact .inl (.inl (e _ _ h))
  · exact .inl (.inr ⟨o, e _ _ h⟩)
  · exact .inr h

end L2

namespace L2
open PySem PySem.Spec PyProof.Rows
section
variable {X : Cx}
end
section
variable {κ : Type} [DecidableEq κ]
end
end L2
namespace L2
open PySem PySem.Spec PyProof.Rows

theorem comp_turn {prog : Program} {w : World} {A : Around} {R : Result → Shared → Prop} {s : Shared} {elt target iter : Expr} {scope : Scope} {pos : Pos} {it acc : Value} {env : Env} (I : Nat → Shared → Prop)
    (turn : ∀ n s, I n s → wpAny (model prog w) A (pyNext it) (fun r s₁ => match r with
      | none => R (.ok .next) s₁
      | some v => wpAny (model prog w) A (letOwnedTupleGo target it v) (fun _ s₀ => wpAny (model prog w) A (assign target env v) (fun _ s₂ =>
          wpAny (model prog w) A (eval elt env) (fun x s₄ =>
              wpAny (model prog w) A (call (.builtin "list.append") [acc, x]) (fun _ s₅ => ∃ m, m < n ∧ I m s₅) (notedBy (model prog w) A env fun e s' => R (.error e) s') s₄) (notedBy (model prog w) A env fun e s' => R (.error e) s') s₂)
          (notedBy (model prog w) A env fun e s' => R (.error e) s') s₀) (notedBy (model prog w) A env fun e s' => R (.error e) s') s₁) (notedBy (model prog w) A env fun e s' => R (.error e) s') s)
    (n : Nat) (h : I n s) :
    codeAny (model prog w) A (.compLoop (.ListComp elt [⟨target, iter, [], 0⟩] scope pos) 0 it acc env) R s := by
  refine codeAny_loop rfl I (fun n s hI => ?_) n h
  show wpAny _ A ((compTurn (.ListComp elt [⟨target, iter, [], 0⟩] scope pos) 0 it acc env).onRaise (fun x => do noteFrame x env; theTreesLotGoes x)) _ _ s
  refine wpAny_noted ?_
  rw [compTurn_list]
  refine wpAny_bind (wpAny_standAt (wpAny_bind (wpAny_mono (turn n s hI) (fun r s₁ h₁ => ?_) fun _ _ h' => h')))
  cases r with
  | none => exact wpAny_pure h₁
  | some v =>
    refine wpAny_bind (wpAny_mono h₁ (fun _ s₀ h₀ => ?_) fun _ _ h' => h')
    refine wpAny_bind (wpAny_mono h₀ (fun _ s₂ h₂ => wpAny_bind (wpAny_tests_nil ?_)) fun _ _ h' => h')
    exact wpAny_bind (wpAny_bind (wpAny_mono h₂ (fun x s₄ h₄ => wpAny_bind (wpAny_mono h₄ (fun _ s₅ h₅ => wpAny_pure (wpAny_pure ⟨rfl, h₅⟩)) fun _ _ h' => h')) fun _ _ h' => h'))

theorem closureFor_is {env : Env} : ∀ (names : List (Str × NameKind)) (cs : List (Str × Addr)), (∀ y ∈ names, y.2 = .free → ∃ c, env.cells.lookup y.1 = some c) → (∀ x c, cs.lookup x = some c → env.cells.lookup x = some c) →
    ∃ cl, (forIn names cs (fun (x : Str × NameKind) (r : List (Str × Addr)) => if (x.2 == NameKind.free) = true then do let c ← cellOf env x.1; pure (ForInStep.yield ((x.1, c) :: r)) else pure (ForInStep.yield r)) : Sem (List (Str × Addr))) = pure cl ∧
      (∀ x c, cl.lookup x = some c → env.cells.lookup x = some c) ∧ (∀ x c, cs.lookup x = some c → cl.lookup x = some c) ∧ ∀ y ∈ names, y.2 = .free → ∃ c, cl.lookup y.1 = some c
  | [], cs, _, hcs => ⟨cs, by simp, hcs, fun _ _ h => h, fun y hy => nomatch hy⟩
  | (n, k) :: r, cs, h, hcs => by
    by_cases hk : k = .free
    · subst hk
      obtain ⟨c, hc⟩ := h (n, .free) List.mem_cons_self rfl
      have hcs' : ∀ x d, ((n, c) :: cs).lookup x = some d → env.cells.lookup x = some d := fun x d e => by
        rw [List.lookup_cons] at e
        split at e
        · rename_i q
          have q' : x = n := by simpa using q
          cases e; rw [q']; exact hc
        · exact hcs x d e
      obtain ⟨cl, e, h1, h2, h3⟩ := closureFor_is r ((n, c) :: cs) (fun y hy => h y (List.mem_cons_of_mem _ hy)) hcs'
      refine ⟨cl, ?_, h1, fun x d hd => ?_, fun y hy hy2 => ?_⟩
      · rw [List.forIn_cons]
        simp only [cellOf, hc, beq_self_eq_true, if_true, pure_bind]
        exact e
      · refine h2 x d ?_
        rw [List.lookup_cons]
        split
        · rename_i q
          have q' : x = n := by simpa using q
          have := hcs x d hd
          rw [q', hc] at this
          exact this
        · exact hd
      · rcases List.mem_cons.mp hy with rfl | hy
        · exact ⟨c, h2 n c (by simp [List.lookup_cons])⟩
        · exact h3 y hy hy2
    · obtain ⟨cl, e, h1, h2, h3⟩ := closureFor_is r cs (fun y hy => h y (List.mem_cons_of_mem _ hy)) hcs
      refine ⟨cl, ?_, h1, h2, fun y hy hy2 => ?_⟩
      · have hk' : (k == NameKind.free) = false := by simpa using hk
        rw [List.forIn_cons]
        simp only [hk', Bool.false_eq_true, if_false, pure_bind]
        exact e
      · rcases List.mem_cons.mp hy with rfl | hy
        · exact absurd hy2 hk
        · exact h3 y hy hy2
theorem closureFor_eq (scope : Scope) (env : Env) : closureFor scope env = (forIn scope.names [] (fun (x : Str × NameKind) (r : List (Str × Addr)) => if (x.2 == NameKind.free) = true then do let c ← cellOf env x.1; pure (ForInStep.yield ((x.1, c) :: r)) else pure (ForInStep.yield r)) : Sem (List (Str × Addr))) := by
  unfold closureFor
  simp
theorem lookup_relabel_free {env : Env} (hk : env.scope.kind = .function) : ∀ {names : List (Str × NameKind)} {x : Str}, names.lookup x = some .free → env.kindOf x = some .cell →
    (names.map fun (n, k) => if (k == NameKind.free && env.scope.kind == .function && env.kindOf n == some .cell) then (n, NameKind.cell) else (n, k)).lookup x = some .cell
  | [], _, h, _ => by simp at h
  | (n, k) :: r, x, h, hc => by
    have ih := @lookup_relabel_free env hk r x
    show List.lookup x ((if (k == NameKind.free && env.scope.kind == .function && env.kindOf n == some .cell) = true then (n, NameKind.cell) else (n, k)) :: _) = _
    cases hx : x == n with
    | true =>
      simp only [List.lookup_cons, hx] at h
      cases h
      have e : x = n := by simpa using hx
      subst e
      simp [List.lookup_cons, hk, hc]
    | false =>
      simp only [List.lookup_cons, hx] at h
      by_cases hc' : (k == NameKind.free && env.scope.kind == .function && env.kindOf n == some .cell) = true
      · rw [if_pos hc']; simp only [List.lookup_cons, hx]; exact ih h hc
      · rw [if_neg hc']; simp only [List.lookup_cons, hx]; exact ih h hc
/-- a name that is a cell or free in the block was free -/
theorem relabel_was {env : Env} : ∀ {names : List (Str × NameKind)} {x : Str}, (∀ y ∈ names, y.2 ≠ .cell) →
    ((names.map fun (n, k) => if (k == NameKind.free && env.scope.kind == .function && env.kindOf n == some .cell) then (n, NameKind.cell) else (n, k)).lookup x = some .cell ∨
     (names.map fun (n, k) => if (k == NameKind.free && env.scope.kind == .function && env.kindOf n == some .cell) then (n, NameKind.cell) else (n, k)).lookup x = some .free) → (x, NameKind.free) ∈ names
  | [], _, _, h => by simp at h
  | (n, k) :: r, x, hn, h => by
    have ih := @relabel_was env r x fun y hy => hn y (List.mem_cons_of_mem _ hy)
    have hk : k ≠ .cell := hn (n, k) List.mem_cons_self
    cases hx : x == n with
    | true =>
      have e : x = n := by simpa using hx
      subst e
      by_cases hf : k = .free
      · subst hf; exact List.mem_cons_self
      · have hf' : ¬ (k == NameKind.free && env.scope.kind == .function && env.kindOf x == some .cell) = true := by simp [hf]
        simp only [List.map_cons, if_neg hf', List.lookup_cons, beq_self_eq_true] at h
        rcases h with h | h
        · exact absurd (Option.some.inj h) hk
        · exact absurd (Option.some.inj h) hf
    | false =>
      refine List.mem_cons_of_mem _ (ih ?_)
      by_cases hc' : (k == NameKind.free && env.scope.kind == .function && env.kindOf n == some .cell) = true
      · simpa only [List.map_cons, if_pos hc', List.lookup_cons, hx] using h
      · simpa only [List.map_cons, if_neg hc', List.lookup_cons, hx] using h

def blk (X : Cx) (sc : Scope) (cl : List (Str × Addr)) (C : Addr) (N' : List Str) (s₂ : Shared) (H₁ : Hp) (fp : List Addr) (pins : List (Addr × Obj)) : Cx where
  prog := X.prog
  w := X.w
  K := X.K
  mg := X.mg
  base := X.base
  A := X.A
  N := N'
  s₀ := s₂
  H₀ := H₁
  env := compEnvC sc cl C X.env
  outer := X.stack
  stack := X.stack
  ex := fp
  fn := fun _ => false
  calm := X.calm
  pn := X.pn ++ pins
  xe := fun _ _ => False

/-- N, names: the slots and names around; N': the block's slots, k of its own, then those at pull of N (caught) -/
structure BScope (N : List Str) (names : List (Str × NameKind)) (N' : List Str) (k : Nat) (pull : List Nat) (sc : Scope) : Prop where
  kind : sc.kind = .function
  nocell : ∀ y ∈ sc.names, y.2 ≠ .cell
  loc : ∀ y ∈ sc.names, y.2 = .local → sc.names.lookup y.1 = some .local
  len : N'.length = k + pull.length
  cap : ∀ i ∈ List.range pull.length, N'[k + i]? = N[pull.getD i 0]? ∧ ∀ x ∈ (N'[k + i]?).toList, sc.names.lookup x = some .free
  fre : ∀ y ∈ sc.names, y.2 = .free → names.lookup y.1 = some .cell

def bst (k : Nat) (pull : List Nat) (σ : St) : St := List.replicate k none ++ pull.map fun j => σ.getD j none

theorem HOk.but {P : Program} {w : World} {H : Hp} {h h' : Heap} {C : Addr} (x : HOk P w H h) (hn : H C = none) (k : ∀ b o, b ≠ C → h.get? b = some o → h'.get? b = some o) : HOk P w H h' := fun b u e => by
  have nit : ∀ b u, H b = some u → b ≠ C := fun b u e z => by rw [z, hn] at e; cases e
  refine (x b u e).stay (fun c v hc q => k c v ?_ q) (fun _ q => q) fun _ _ q => q
  rcases hc with z | z
  · rw [z]; exact nit b u e
  · exact nit c _ z

def tComp (wi : TI) (k : Nat) (pull : List Nat) (g : TG) (te : TE) : TE := fun σ H Q => wi σ H fun J H1 => ∀ d, H1 d = none →
  ∃ W : Nat → Nat → St → Hp → Prop, (∃ m, W 0 m (bst k pull σ) (upd H1 d (.lst []))) ∧ ∀ i m σ' H', W i m σ' H' →
    (J.stop i H' ∧ Q (.ref d) H') ∨
    (J.go i H' ∧ ∀ x H2, J.yld i H' x H2 → g x σ' H2 fun σ3 H3 => te σ3 H3 fun y H4 => ∃ xs, H4 d = some (.lst xs) ∧ xs.length < sizeLine ∧ ∃ m', m' < m ∧ W (i + 1) m' σ3 (upd H4 d (.lst (xs ++ [y]))))

section
variable {X : Cx} {elt tg iter : Expr} {sc : Scope} {pos : Pos} {wi : TI} {g : TG} {te : TE} {N : List Str} {names : List (Str × NameKind)} {N' : List Str} {k : Nat} {pull : List Nat}

theorem blk_start {pins : List (Addr × Obj)} {σ : St} {H1 : Hp} {s2 : Shared} {fp : List Addr} {cl : List (Str × Addr)} {h₁ : Heap} {tk : Nat} (B : BScope N names N' k pull sc) (hN : X.N = N) (hnm : X.env.scope.names = names)
    (I2 : Inv X pins σ H1 s2) (f2 : ∀ b ∈ fp, FpOk X pins H1 b) (ho : ∀ b ∈ fp, ∃ o, s2.heap.get? b = some o)
    (c1 : ∀ x c, cl.lookup x = some c → X.env.cells.lookup x = some c) (c3 : ∀ y ∈ sc.names, y.2 = .free → ∃ c, cl.lookup y.1 = some c)
    (hns : h₁.Ns (s2.heap.objs.size + 1) (fun x => ([] : List (Str × Value)).reverse.lookup x))
    (hk : ∀ b o, s2.heap.get? b = some o → h₁.get? b = some o) (hd : h₁.get? s2.heap.objs.size = some { cls := .type "list", data := .seq ([] : List Value).toArray }) :
    Inv (blk X sc cl (s2.heap.objs.size + 1) N' s2 H1 fp pins) [] (bst k pull σ) (upd H1 s2.heap.objs.size (.lst [])) { s2 with heap := h₁, toks := tk } := by
  have hfd : H1 s2.heap.objs.size = none := I2.hok.fresh (Nat.le_refl _)
  have hfC : (upd H1 s2.heap.objs.size (.lst [])) (s2.heap.objs.size + 1) = none := by
    rw [upd_ne (Nat.succ_ne_self _)]; exact I2.hok.fresh (Nat.le_succ _)
  have hlook : ∀ x, (compEnvC sc cl (s2.heap.objs.size + 1) X.env).kindOf x = some .cell ∨ (compEnvC sc cl (s2.heap.objs.size + 1) X.env).kindOf x = some .free → (x, NameKind.free) ∈ sc.names := fun x hx =>
    relabel_was (env := X.env) B.nocell hx
  have cellKind : ∀ y ∈ sc.names, y.2 = .free → X.env.kindOf y.1 = some .cell := fun y hy hf => by
    show X.env.scope.names.lookup y.1 = _
    rw [hnm]; exact B.fre y hy hf
  refine ⟨⟨I2.ok.mod, B.kind, I2.ok.glob, I2.ok.blt, Nat.le_succ _, fun x y c e1 e2 => I2.ok.inj x y c (c1 x c e1) (c1 y c e2), fun x hx => c3 _ (hlook x hx) rfl, (fun x c h _ => nomatch h), I2.ok.hd, I2.ok.frames, .inl rfl, fun b hb => ⟨?_, fun x c e => ?_⟩, I2.bs, Nat.le_trans I2.ok.bsz I2.sz, fun b o e hb => ?_, fun b hb hs => ?_, I2.stack, I2.stkFree⟩,
    rfl, I2.bare, Un.laid hk (Nat.le_refl _) hfd, ⟨_, hns, fun i x v e1 e2 e3 => ?_⟩, fun x c e => ?_, hfC, fun x c e => ?_, fun p hp => ?_, I2.hok.laid hk (Nat.le_refl _) ⟨Nat.zero_le _, [], 0, .nil, hd⟩, ?_⟩
  · obtain ⟨o, e⟩ := ho b hb
    exact Nat.ne_of_lt (Nat.lt_succ_of_lt (Heap.lt_size e))
  · exact (f2 b hb).2.2.2.2.1 x c (c1 x c e)
  · rcases (f2 b hb).2.2.2.1 with z | z
    · exact I2.ok.noex b o e z
    · exact absurd (Nat.lt_of_lt_of_le (Heap.lt_size e) (Nat.le_trans I2.ok.bsz z)) (Nat.lt_irrefl _)
  · rcases List.mem_cons.mp (I2.stkSub b hs) with z | z
    · exact (f2 b hb).2.1 z
    · exact (f2 b hb).2.2.1 z
  · -- a slot that is set is a caught name
    have e2 : (bst k pull σ)[i]? = some (some v) := e2
    unfold bst at e2
    by_cases hi : i < k
    · rw [List.getElem?_append_left (by simpa using hi), List.getElem?_replicate, if_pos hi] at e2
      cases e2
    · rw [List.getElem?_append_right (by simpa using hi), List.length_replicate, List.getElem?_map] at e2
      cases ej : pull[i - k]? with
      | none => rw [ej] at e2; cases e2
      | some j =>
        rw [ej] at e2
        have e2 : σ.getD j none = some v := Option.some.inj e2
        have hj : σ[j]? = some (some v) := by
          rw [List.getD_eq_getElem?_getD] at e2
          cases q : σ[j]? with
          | none => rw [q] at e2; cases e2
          | some z => rw [q] at e2; simpa using e2
        have hil : i - k < pull.length := (List.getElem?_eq_some_iff.mp ej).1
        obtain ⟨q1, q2⟩ := B.cap (i - k) (List.mem_range.mpr hil)
        have ei : k + (i - k) = i := by omega
        have ep : pull.getD (i - k) 0 = j := by rw [List.getD_eq_getElem?_getD, ej]; rfl
        have e1 : N'[i]? = some x := e1
        rw [ei, ep, e1] at q1
        rw [ei, e1] at q2
        have hf := q2 x (by simp)
        have hmem := PySem.mem_of_lookup hf
        have hc := cellKind (x, .free) hmem rfl
        obtain ⟨m, hn, hl⟩ := I2.loc
        obtain ⟨u, r, l⟩ := hl j x v (by rw [hN]; exact q1.symm) hj (.inr (.inl hc))
        refine ⟨u, r, .inr ⟨.inl (lookup_relabel_free I2.ok.kind hf hc), ?_⟩⟩
        rcases l with ⟨hloc, _⟩ | ⟨_, c, ec, hcell⟩
        · rw [hc] at hloc; cases hloc
        · obtain ⟨c', ec'⟩ := c3 (x, .free) hmem rfl
          have := c1 x c' ec'
          rw [ec] at this
          cases this
          obtain ⟨o, h1, h2⟩ := hcell
          exact ⟨c, ec', o, hk c o h1, h2⟩
  · obtain ⟨v, o, h1, h2⟩ := I2.cell x c (c1 x c e)
    exact ⟨v, o, hk c o h1, h2⟩
  · obtain ⟨v, o, h1, h2⟩ := I2.cell x c (c1 x c e)
    rw [upd_ne (Nat.ne_of_lt (Heap.lt_size h1))]
    exact I2.freeC x c (c1 x c e)
  · have hp : p ∈ X.pn ++ pins := by simpa [blk] using hp
    obtain ⟨a1, a2, a3, a4, a5⟩ := I2.pin p hp
    have hlt := Heap.lt_size a1
    refine ⟨hk _ _ a1, by rw [upd_ne (Nat.ne_of_lt hlt)]; exact a2, ?_, fun hs => ?_, a5⟩
    · exact Nat.ne_of_lt (Nat.lt_succ_of_lt hlt)
    · rcases List.mem_cons.mp (I2.stkSub p.1 hs) with z | z
      · exact a3 z
      · exact a4 z
  · show (bst k pull σ).length = N'.length
    unfold bst
    rw [List.length_append, List.length_replicate, List.length_map, B.len]

theorem pe_comp (hc : X.calm = true) (B : BScope N names N' k pull sc) (hN : X.N = N) (hnm : X.env.scope.names = names) (hi : PI X tg iter wi)
    (hg : ∀ cl C s₂ H₁ fp pins, PG (blk X sc cl C N' s₂ H₁ fp pins) tg g) (he : ∀ cl C s₂ H₁ fp pins, PE (blk X sc cl C N' s₂ H₁ fp pins) elt te)
    (hs : ∀ x, foldedSetIterable iter X.env x = pure x := by intro _; rfl) : PE X (.ListComp elt [⟨tg, iter, [], 0⟩] sc pos) (tComp wi k pull g te) := by
  intro pins s σ H Q I h
  rw [eval_ListComp]
  have hcells : ∀ y ∈ sc.names, y.2 = .free → ∃ c, X.env.cells.lookup y.1 = some c := fun y hy hf => I.ok.has y.1 (.inl (by
    show X.env.scope.names.lookup y.1 = _
    rw [hnm]; exact B.fre y hy hf))
  obtain ⟨cl, ecl, c1, _, c3⟩ := closureFor_is (env := X.env) sc.names [] hcells (fun x c e => nomatch e)
  rw [← closureFor_eq] at ecl
  refine wpAny_comprehension_free (use := none) rfl hs ecl B.kind B.loc (thn (hi pins s σ H _ I h) fun xv s1 h1 => thn h1 fun itv s2 h2 => ?_)
  obtain ⟨it, fp, tn, J, H1, e, I2, T, st2, f2, hW⟩ := h2
  subst e
  have ho : ∀ b ∈ fp, ∃ o, s2.heap.get? b = some o := fun b hb => let ⟨o, e, _⟩ := T.obj _ _ st2 b hb; ⟨o, e⟩
  refine wpAny_newObj_type (wpAny_newFunctionEnv B.nocell (by intro y hy; simp at hy) (fun h₁ hns₁ hsb₁ => ?_) B.kind)
  dsimp only at hns₁ hsb₁ ⊢
  rw [Heap.size_push] at hns₁ hsb₁ ⊢
  have old : ∀ b o, s2.heap.get? b = some o → h₁.get? b = some o := fun b o e => by
    have hlt := Heap.lt_size e
    exact (hsb₁.2 b (Nat.ne_of_lt (Nat.lt_succ_of_lt hlt))).trans (Heap.get?_push_of_some _ (Heap.get?_push_of_some _ e))
  have hd : h₁.get? s2.heap.objs.size = some { cls := .type "list", data := .seq ([] : List Value).toArray } :=
    (hsb₁.2 _ (Nat.ne_of_lt (Nat.lt_succ_self _))).trans (Heap.get?_push_of_some _ (Heap.get?_push_size _ rfl))
  have I4 := blk_start (tk := s2.toks + ([] : List (Str × Value)).length) B hN hnm I2 f2 ho c1 c3 hns₁ old hd
  have st4 : tn 0 h₁ := T.keep _ _ _ st2 fun b _ o e => old b o e
  obtain ⟨W, ⟨m0, w0⟩, turn⟩ := hW s2.heap.objs.size (I2.hok.fresh (Nat.le_refl _))
  have fr4 : ∀ b ∈ fp, (upd H1 s2.heap.objs.size (.lst [])) b = none := fun b hb => by
    obtain ⟨o, e⟩ := ho b hb
    rw [upd_ne (Nat.ne_of_lt (Heap.lt_size e))]
    exact (f2 b hb).1
  -- what stays true of the iterator's objects
  have stat : ∀ {H' : Hp}, (∀ b ∈ fp, H' b = none) → ∀ b ∈ fp, FpOk (blk X sc cl (s2.heap.objs.size + 1) N' s2 H1 fp pins) [] H' b := fun hn b hb => by
    refine ⟨hn b hb, (I4.ok.exf b hb).1, I4.ok.exfs b hb, .inl hb, (I4.ok.exf b hb).2, fun p hp => ?_⟩
    have hp : p ∈ X.pn ++ pins := by simpa [blk] using hp
    exact (f2 b hb).2.2.2.2.2 p hp
  have loop : ∀ s₃ : Shared, s₃ = { s2 with heap := h₁, toks := s2.toks + ([] : List (Str × Value)).length } →
      codeAny (model X.prog X.w) X.A (.compLoop (.ListComp elt [⟨tg, iter, [], 0⟩] sc pos) 0 (.ref it) (.ref s2.heap.objs.size) (compEnvC sc cl (s2.heap.objs.size + 1) X.env))
        (compPost (model X.prog X.w) X.A X.xe none (EP X pins σ Q) (.ref s2.heap.objs.size) (s2.heap.objs.size + 1)) s₃ := by
    rintro s₃ rfl
    refine comp_turn (fun n s' => ∃ i σ' H', Inv (blk X sc cl (s2.heap.objs.size + 1) N' s2 H1 fp pins) [] σ' H' s' ∧ tn i s'.heap ∧ (∀ b ∈ fp, H' b = none) ∧ W i n σ' H') ?_ m0 ⟨0, _, _, I4, st4, fr4, w0⟩
    rintro n s3 ⟨i, σ3, H3, I3, st3, fr3, w3⟩
    rcases turn i n σ3 H3 w3 with ⟨stop, q⟩ | ⟨go, step⟩
    · refine thn (T.done (blk X sc cl (s2.heap.objs.size + 1) N' s2 H1 fp pins) rfl rfl rfl hc i [] s3 σ3 H3 _ I3 (stat fr3) st3 stop) fun r s4 ⟨hr, I5⟩ => ?_
      subst hr
      obtain ⟨m, hn, _⟩ := id I5.loc
      refine ⟨m, hn, fun h' hs' => ?_⟩
      have ne : ∀ b o, s2.heap.get? b = some o → b ≠ s2.heap.objs.size + 1 := fun b o e => Nat.ne_of_lt (Nat.lt_succ_of_lt (Heap.lt_size e))
      have U : Un (frs X.stack) fp H1 H3 s2.heap s4.heap := I5.base
      have U' : Un (frs X.stack) fp H1 H3 s2.heap h' := ⟨fun b o e n hb hx => (hs'.2 b (ne b o e)).trans (U.keep b o e n hb hx), fun b o e n hb hx => by
          obtain ⟨sl, z⟩ := U.slot b o e n hb hx
          exact ⟨sl, (hs'.2 b (ne b o e)).trans z⟩, U.free, fun b o e hx => by
          obtain ⟨o', z⟩ := U.there b o e hx
          exact ⟨o', (hs'.2 b (ne b o e)).trans z⟩, U.tups, U.frzs, U.tbls⟩
      have hok : HOk X.prog X.w H3 h' := HOk.but (C := s2.heap.objs.size + 1) I5.hok I5.free fun b o hb e => (hs'.2 b hb).trans e
      refine ⟨.ref s2.heap.objs.size, H3, I2.call' (s' := { s4 with heap := h' }) I5.os U' hok I5.bare fun b hb => ?_, rfl, q⟩
      exact ⟨(f2 b hb).2.2.2.1, (f2 b hb).2.1, (f2 b hb).2.2.2.2.1, (f2 b hb).2.2.2.2.2⟩
    · refine thn (T.item (blk X sc cl (s2.heap.objs.size + 1) N' s2 H1 fp pins) rfl rfl rfl hc i [] s3 σ3 H3 _ I3 (stat fr3) st3 go) fun r s4 ⟨u, hr, h4⟩ => ?_
      subst hr
      refine thn h4 fun _ s5 ⟨x, H5, I5, r5, y5, st5, fr5⟩ => ?_
      have I5' := I5.pinned (stat fr5) (T.obj _ _ st5)
      refine wpAny_mono (hg _ _ _ _ _ _ _ s5 σ3 H5 x u _ I5' r5 (step x H5 y5)) (fun _ s6 ⟨σ6, H6, I6, q6⟩ => ?_) fun _ _ z => z.elim
      refine wpAny_mono (he _ _ _ _ _ _ _ s6 σ6 H6 _ I6 q6) (fun y s7 ⟨z, H7, I7, r7, xs, hx7, hz7, m', hm, w7⟩ => ?_) fun _ _ z => z.elim
      refine wpAny_mono (mt_append (X := blk X sc cl (s2.heap.objs.size + 1) N' s2 H1 fp pins) _ s7 σ6 H7 (.ref s2.heap.objs.size) [z] (.ref s2.heap.objs.size) [y] (fun _ H8 => H8 = upd H7 s2.heap.objs.size (.lst (xs ++ [z]))) I7 rfl (.cons r7 .nil) ⟨_, xs, z, rfl, rfl, hx7, hz7, rfl⟩) (fun _ s8 ⟨_, H8, I8, _, e8⟩ => ?_) fun _ _ z => z.elim
      subst e8
      refine ⟨m', hm, i + 1, σ6, _, I8.unpinned, T.keep _ _ _ st5 fun b hb o e => (I8.pin (b, o) (List.mem_append_right _ (List.mem_append_right _ (mem_pinsAt hb e)))).1, fun b hb => ?_, w7⟩
      obtain ⟨o, e, _⟩ := T.obj _ _ st5 b hb
      exact (I8.pin (b, o) (List.mem_append_right _ (List.mem_append_right _ (mem_pinsAt hb e)))).2.1
  exact codeAny_compStart_list (loop _ rfl) (T.self _ 0 _ _ _ st4 (loop _ rfl))
end
end L2
namespace L2
open PySem
open AutoSeq1 (wpAny_loadPart')
section
variable {prog : Program} {w : World} {A : Around} {E : Value → Shared → Prop} {s : Shared}
theorem nextOf_tuple_item {it l : Addr} {i : Nat} {items} {x : Value} {Q : Value → Shared → Prop} (hit : s.heap.IsTupleIter it l i)
    (hl : s.heap.IsTuple l items) (hx : items[i]? = some x)
    (hQ : ∀ h', h'.IsTupleIter it l (i + 1) → Heap.SameBut it s.heap h' → Q x { s with heap := h' }) :
    wpAny (model prog w) A (Builtin.SmallTypes.nextOf (.ref it)) Q E s := by
  obtain ⟨o, ho, hc, hd⟩ := id hit
  obtain ⟨ol, hol, _, nl, hdl⟩ := hl
  unfold Builtin.SmallTypes.nextOf
  refine wpAny_bind (wpAny_callSpecial?_slot (name := Str.ofString "__next__") hit.typeIs F.slot_tuple_iterator_next
    (wpAny_call_entry F.slot_tuple_iterator_next hit.typeIs F.entry_tuple_iterator_next ?_ (F.args_tuple_iterator_next_1 _)))
  show wpAny _ _ (field (.ref it) 0 >>= _) _ _ s
  refine wpAny_bind (wpAny_field ho hd (x := .ref l) rfl ?_)
  show wpAny _ _ (if (Value.ref l == Value.none) = true then _ else _) _ _ s
  rw [if_neg (show ¬ ((Value.ref l == Value.none) = true) from Bool.false_ne_true)]
  show wpAny _ _ (field (.ref it) 1 >>= _) _ _ s
  refine wpAny_bind (wpAny_field ho hd (x := .int i 0) rfl ?_)
  show wpAny _ _ (seqItems? (.ref l) >>= _) _ _ s
  refine wpAny_bind (wpAny_seqItems hol hdl ?_)
  simp only [Int.toNat_natCast, hx]
  refine wpAny_bind (wpAny_setField ho hd (by simp) (wpAny_pure ⟨x, rfl, wpAny_pure (hQ _ ?_ (Heap.SameBut.update ..))⟩))
  exact ⟨_, Heap.get?_update_self _ ho (Obj.isFreed_of_fields (Obj.data_mapFields hd _)), (Obj.cls_mapFields ..).trans hc, by
    rw [Obj.data_mapFields hd]; simp [rawInt]⟩
theorem nextOf_tuple_end {it l : Addr} {i : Nat} {items} {Q : Value → Shared → Prop} (hh : A.handled = none)
    (hit : s.heap.IsTupleIter it l i) (hl : s.heap.IsTuple l items) (hx : items[i]? = none)
    (hE : ∀ h' e, Heap.ExtBut it s.heap h' → (∃ o, h'.get? e = some o ∧ o.cls = .type "StopIteration") → E (.ref e) { s with heap := h' }) :
    wpAny (model prog w) A (Builtin.SmallTypes.nextOf (.ref it)) Q E s := by
  obtain ⟨o, ho, hc, hd⟩ := id hit
  obtain ⟨ol, hol, _, nl, hdl⟩ := hl
  unfold Builtin.SmallTypes.nextOf
  refine wpAny_bind (wpAny_callSpecial?_slot (name := Str.ofString "__next__") hit.typeIs F.slot_tuple_iterator_next
    (wpAny_call_entry F.slot_tuple_iterator_next hit.typeIs F.entry_tuple_iterator_next ?_ (F.args_tuple_iterator_next_1 _)))
  show wpAny _ _ (field (.ref it) 0 >>= _) _ _ s
  refine wpAny_bind (wpAny_field ho hd (x := .ref l) rfl ?_)
  show wpAny _ _ (if (Value.ref l == Value.none) = true then _ else _) _ _ s
  rw [if_neg (show ¬ ((Value.ref l == Value.none) = true) from Bool.false_ne_true)]
  show wpAny _ _ (field (.ref it) 1 >>= _) _ _ s
  refine wpAny_bind (wpAny_field ho hd (x := .int i 0) rfl ?_)
  show wpAny _ _ (seqItems? (.ref l) >>= _) _ _ s
  refine wpAny_bind (wpAny_seqItems hol hdl ?_)
  simp only [Int.toNat_natCast, hx]
  refine wpAny_bind (wpAny_rule (wpAny_bind (wpAny_setField ho hd (by simp) ?_)))
  show wpAny _ _ (newExc (.type "StopIteration") [] >>= _) _ _ _
  refine wpAny_bind ?_
  simp only [newExc, newTuple]
  refine wpAny_bind (wpAny_newObj_type ?_ (by size_fits))
  refine wpAny_bind (m := firstArgMember _ _) (wpAny_of_eq (a := Value.none) (by first | rfl | (simp only [firstArgMember]; rfl)) ?_)
  refine wpAny_newObj_type ?_ (by size_fits)
  simp only [raiseNew]
  refine wpAny_bind (wpAny_handled ?_)
  first | rw [show A.in1.handled = none from hh] | rw [hh]
  refine wpAny_bind (wpAny_pure (wpAny_throw ?_))
  exact hE _ _ (((Heap.SameBut.update ..).extBut.push _).push _) ⟨_, Heap.get?_push_size _ rfl, rfl⟩
end
theorem Draws_tuple {prog : Program} {w : World} {A : Around} (hh : A.handled = none) (it l : Addr) (hne : l ≠ it) (items : Array Value) :
    Draws prog w A it [it, l] items.size (fun i v => items[i]? = some v) (fun i h => h.IsTupleIter it l i ∧ h.IsTuple l items) where
  live := fun _ _ st => let ⟨⟨o, ho, _⟩, _⟩ := st; ⟨o, ho⟩
  frame := fun _ _ _ st hk => ⟨let ⟨o, ho, r⟩ := st.1; ⟨o, hk it (by simp) o ho, r⟩, let ⟨o, ho, r⟩ := st.2; ⟨o, hk l (by simp) o ho, r⟩⟩
  item := fun i s Q E hi st hQ => by
    refine nextOf_tuple_item st.1 st.2 (x := items[i]) (by simp [hi]) fun h' hit' hs' => ?_
    exact hQ _ h' s.toks (by simp [hi]) ⟨hit', let ⟨o, ho, r⟩ := st.2; ⟨o, (hs'.2 l hne).trans ho, r⟩⟩ hs'
  done := fun s Q E st hE => nextOf_tuple_end hh st.1 st.2 (by simp) hE

theorem meets_enumerate_newT (l : Addr) (items : Array Value) (o : Obj) (hc : o.cls = .type "tuple") (n : Nat) (hd : o.data = .seq items n) :
    Meets (Builtin.«enumerate.__new__» ⟨[.type "enumerate", .ref l], []⟩) (fun _ R s => s.heap.get? l = some o ∧
      R (.ok (.ret (.ref (s.heap.push { cls := .type "tuple_iterator", data := .fields #[.ref l, .int 0 0] }).objs.size)))
        { s with heap := (s.heap.push { cls := .type "tuple_iterator", data := .fields #[.ref l, .int 0 0] }).push { cls := .type "enumerate", data := .fields #[.none, .bool false, .ref s.heap.objs.size, rawInt 0, .none, .none] } }) :=
  .of_wp fun prog w A R s h => by
    obtain ⟨hp, g, d, tk, os⟩ := s; obtain ⟨hl, h⟩ := h
    have hsub := sub_enumerate
    have hL : Heap.IsTuple (Shared.heap ⟨hp, g, d, tk, os⟩) l items := ⟨_, hl, hc, n, hd⟩
    wp_walk using wpAny_loadPart' hl
    refine wpAny_stack_any fun st => wpAny_pure ?_
    split
    · rename_i c _ _ _ _ _
      cases (c == Value.type "enumerate")
      · wp_walk using wpAny_loadPart' hl, wpAny_pyIter_tuple hL
        exact ⟨_, rfl, h⟩
      · wp_walk using wpAny_loadPart' hl, wpAny_pyIter_tuple hL
        exact ⟨_, rfl, h⟩
    · wp_walk using wpAny_loadPart' hl, wpAny_pyIter_tuple hL
      exact ⟨_, rfl, h⟩
theorem call_enumerate_tuple {prog : Program} {w : World} {A : Around} {E : Value → Shared → Prop} {s : Shared} {l : Addr} {items : Array Value} {Q : Value → Shared → Prop} (hL : s.heap.IsTuple l items)
    (h : ∀ h', IsEnum h' (s.heap.objs.size + 1) s.heap.objs.size 0 .none → h'.IsTupleIter s.heap.objs.size l 0 → h'.objs.size = s.heap.objs.size + 2 →
      (∀ b o, s.heap.get? b = some o → h'.get? b = some o) → Q (.ref (s.heap.objs.size + 1)) { s with heap := h' }) :
    wpAny (model prog w) A (call (.type "enumerate") [.ref l]) Q E s := by
  obtain ⟨o, hl, hc, n, hd⟩ := hL
  refine callType_new F.called_enumerate (by decide) (F.typeCall_enumerate_1 _) (F.newCall_enumerate_1 _) (fun obj => F.args_object_init_2 obj _) F.entry_enumerate_new
    (meets_enumerate_newT l items o hc n hd) ⟨hl, ?_⟩
  have hz : (s.heap.push { cls := .type "tuple_iterator", data := .fields #[.ref l, .int 0 0] }).objs.size = s.heap.objs.size + 1 := Heap.size_push ..
  show _ ∧ _
  rw [hz]
  have he : IsEnum ((s.heap.push { cls := .type "tuple_iterator", data := .fields #[.ref l, .int 0 0] }).push
      { cls := .type "enumerate", data := .fields #[.none, .bool false, .ref s.heap.objs.size, rawInt 0, .none, .none] }) (s.heap.objs.size + 1) s.heap.objs.size 0 .none := by
    have := Heap.get?_push_size (s.heap.push { cls := .type "tuple_iterator", data := .fields #[.ref l, .int 0 0] })
      (o := { cls := .type "enumerate", data := .fields #[.none, .bool false, .ref s.heap.objs.size, rawInt 0, .none, .none] }) rfl
    rw [hz] at this; exact this
  refine ⟨⟨_, he, rfl⟩, h _ he ⟨_, Heap.get?_push_of_some _ (Heap.get?_push_size _ rfl), rfl, rfl⟩ (by rw [Heap.size_push, hz]) fun b o x => Heap.get?_push_of_some _ (Heap.get?_push_of_some _ x)⟩
end L2
namespace L2
open PySem PySem.Spec PyProof.Rows

section
variable {X : Cx}
theorem call_isinst : CallR X (.builtin "isinstance") (fun xs H Q => ∃ x c t b, xs = [x, .ty c] ∧ TyOf X.K H x t ∧ PySem.W.kitOne X.K t (.type c) = some b ∧ Q (.bl b) H) := by
  intro pins s σ H xs us Q I r h
  obtain ⟨x, c, t, b, rfl, ty, e, q⟩ := h
  obtain ⟨u, w', rfl, ru, rc⟩ := vals2 r
  obtain rfl : w' = Value.type c := rc
  exact isinst_ok I ru ty e fun tk => ⟨.bl b, H, I.tok _, rfl, q⟩
end
theorem kit_int_int (K : PySem.W.Frag) : PySem.W.kitOne K (.type "int") (.type "int") = some true := by kernel_rfl
theorem kit_int_bool (K : PySem.W.Frag) : PySem.W.kitOne K (.type "int") (.type "bool") = some false := by kernel_rfl
theorem kit_tup_tup (K : PySem.W.Frag) : PySem.W.kitOne K (.type "tuple") (.type "tuple") = some true := by kernel_rfl
theorem kit_list_list (K : PySem.W.Frag) : PySem.W.kitOne K (.type "list") (.type "list") = some true := by kernel_rfl

mutual
inductive Dt (K : PySem.W.Frag) (H : Hp) : V → PyData → Prop
  | non : Dt K H .non .none
  | bl (b : Bool) : Dt K H (.bl b) (.bool b)
  | int (i : Int) : Dt K H (.int i) (.int i)
  | str (x : Str) : Dt K H (.str x) (.str x)
  | lst {a : Addr} {xs : List V} {ds : List PyData} : SqL K H a xs → DtAll K H xs ds → Dt K H (.ref a) (.list ds)
  | tup {a : Addr} {xs : List V} {ds : List PyData} : SqT K H a xs → DtAll K H xs ds → Dt K H (.ref a) (.tuple ds)
inductive DtAll (K : PySem.W.Frag) (H : Hp) : List V → List PyData → Prop
  | nil : DtAll K H [] []
  | cons {x : V} {d : PyData} {xs : List V} {ds : List PyData} : Dt K H x d → DtAll K H xs ds → DtAll K H (x :: xs) (d :: ds)
end
section
variable {X : Cx} {pins : List (Addr × Obj)} {σ : St} {H : Hp} {s : Shared}
mutual
theorem Dt.reads (I : Inv X pins σ H s) : ∀ {x : V} {d : PyData} {u : Value}, Dt X.K H x d → RelV x u → ∃ as, Reads s.heap u d as
  | _, _, _, .non, r => by obtain rfl := (show _ = Value.none from r); exact ⟨_, .none⟩
  | _, _, _, .bl b, r => by obtain rfl := (show _ = Value.bool b from r); exact ⟨_, .bool b⟩
  | _, _, _, .int i, r => by obtain ⟨t, rfl⟩ := r; exact ⟨_, .int i t⟩
  | _, _, _, .str x, r => by obtain ⟨t, rfl⟩ := r; exact ⟨_, .str x t⟩
  | _, _, _, @Dt.lst _ _ a xs ds hq ha, r => by
    obtain rfl := (show _ = Value.ref a from r)
    obtain ⟨its, rv, ⟨o, n, h1, h2, h3, h4⟩, hz⟩ := I.list hq
    obtain ⟨as, ra⟩ := DtAll.reads I ha rv
    exact ⟨_, .list h1 h2 h4 (by simpa using ra)⟩
  | _, _, _, @Dt.tup _ _ a xs ds hq ha, r => by
    obtain rfl := (show _ = Value.ref a from r)
    obtain ⟨its, rv, ⟨o, h1, h2, n, h3⟩, hz⟩ := I.tuple hq
    obtain ⟨as, ra⟩ := DtAll.reads I ha rv
    exact ⟨_, .tuple h1 h2 h3 (by simpa using ra)⟩
theorem DtAll.reads (I : Inv X pins σ H s) : ∀ {xs : List V} {ds : List PyData} {us : List Value}, DtAll X.K H xs ds → Vals xs us → ∃ as, ReadsAll s.heap us ds as
  | _, _, _, .nil, r => by cases r; exact ⟨_, .nil⟩
  | _, _, _, .cons h t, r => by
    cases r with
    | cons r rr =>
      obtain ⟨a1, h1⟩ := Dt.reads I h r
      obtain ⟨a2, h2⟩ := DtAll.reads I t rr
      exact ⟨_, .cons h1 h2⟩
end
def rEqD (K : PySem.W.Frag) (A : Around) (neg : Bool) : R2 := fun x y H Q => ∃ d e, Dt K H x d ∧ Dt K H y e ∧ d.canLay0 = true ∧ e.canLay0 = true ∧ A.units + min d.depth e.depth < cLine ∧ Q (.bl (if neg then !PyData.eqv d e else PyData.eqv d e)) H
theorem op_eqD : OpR X (compareOp .Eq) (rEqD X.K X.A false) := by
  intro pins s σ H x y v u Q I rx ry h
  obtain ⟨d, e, hd, he, c1, c2, hu, q⟩ := h
  obtain ⟨as, ra⟩ := Dt.reads I hd rx
  obtain ⟨bs, rb⟩ := Dt.reads I he ry
  exact SeqAt.compareEq_reads ra rb c1 c2 hu ⟨.bl _, H, I, rfl, q⟩
theorem op_neD : OpR X (compareOp .NotEq) (rEqD X.K X.A true) := by
  intro pins s σ H x y v u Q I rx ry h
  obtain ⟨d, e, hd, he, c1, c2, hu, q⟩ := h
  obtain ⟨as, ra⟩ := Dt.reads I hd rx
  obtain ⟨bs, rb⟩ := Dt.reads I he ry
  exact SeqAt.compareNe_reads ra rb c1 c2 hu ⟨.bl _, H, I, rfl, q⟩
end
/-- rows of squares as values, as data -/
def nv (xs : List Nat) : List V := xs.map fun (n : Nat) => V.int (n : Int)
def nd (xs : List Nat) : List PyData := xs.map fun (n : Nat) => PyData.int (n : Int)
theorem nv_len (xs : List Nat) : (nv xs).length = xs.length := by simp [nv]
theorem nv_get {xs : List Nat} {i : Nat} {x : Nat} (h : xs[i]? = some x) : (nv xs)[i]? = some (.int (x : Int)) := by simp [nv, h]
theorem nv_get' {xs : List Nat} {i : Nat} {v : V} (h : (nv xs)[i]? = some v) : ∃ x, xs[i]? = some x ∧ v = .int (x : Int) := by
  rw [nv, List.getElem?_map] at h
  cases e : xs[i]? with
  | none => rw [e] at h; cases h
  | some x => rw [e] at h; exact ⟨x, rfl, (Option.some.inj h).symm⟩
theorem nv_snoc (xs : List Nat) (x : Nat) : nv xs ++ [.int (x : Int)] = nv (xs ++ [x]) := by simp [nv]
theorem nv_inj {xs ys : List Nat} (h : nv xs = nv ys) : xs = ys := by
  unfold nv at h
  induction xs generalizing ys with
  | nil => cases ys with
    | nil => rfl
    | cons y ys => simp at h
  | cons x xs ih => cases ys with
    | nil => simp at h
    | cons y ys =>
      simp only [List.map_cons, List.cons.injEq, V.int.injEq] at h
      rw [ih h.2, Int.ofNat.inj (show Int.ofNat x = Int.ofNat y from h.1)]
theorem nd_all {K : PySem.W.Frag} {H : Hp} : ∀ xs : List Nat, DtAll K H (nv xs) (nd xs)
  | [] => .nil
  | x :: xs => .cons (.int _) (nd_all xs)
theorem nd_lay : ∀ xs : List Nat, PyData.canLayAll0 (nd xs) = true
  | [] => rfl
  | x :: xs => by show (PyData.canLay0 (PyData.int _) && PyData.canLayAll0 (nd xs)) = true; rw [nd_lay xs]; rfl
theorem nd_eqv : ∀ xs ys : List Nat, PyData.eqvAll (nd xs) (nd ys) = decide (xs = ys)
  | [], [] => rfl
  | [], y :: ys => rfl
  | x :: xs, [] => rfl
  | x :: xs, y :: ys => by
    show (((x : Int) == (y : Int)) && PyData.eqvAll (nd xs) (nd ys)) = _
    rw [nd_eqv xs ys]
    by_cases e : x = y
    · subst e
      by_cases e' : xs = ys <;> simp [e']
    · have : ((x : Int) == (y : Int)) = false := by simpa using fun h : (x : Int) = y => e (by omega)
      simp [this, e]
/-- a sheet's two rows as data -/
def sd (r u : List Nat) : PyData := .tuple [.tuple (nd r), .tuple (nd u)]
theorem sd_eqv (r u r' u' : List Nat) : PyData.eqv (sd r u) (sd r' u') = (decide (r = r') && decide (u = u')) := by
  show (PyData.eqvAll (nd r) (nd r') && (PyData.eqvAll (nd u) (nd u') && true)) = _
  rw [nd_eqv, nd_eqv, Bool.and_true]
theorem sd_lay (r u : List Nat) : (sd r u).canLay0 = true := by
  show (PyData.canLayAll0 (nd r) && (PyData.canLayAll0 (nd u) && true)) = true
  rw [nd_lay, nd_lay]; rfl
/-- the sheet at a: a tuple of two tuples -/
def ShAt (H : Hp) (a : Addr) (r u : List Nat) : Prop := ∃ p q, H a = some (.tup [.ref p, .ref q]) ∧ H p = some (.tup (nv r)) ∧ H q = some (.tup (nv u))
theorem ShAt.dt {K : PySem.W.Frag} {H : Hp} {a : Addr} {r u : List Nat} (h : ShAt H a r u) : Dt K H (.ref a) (sd r u) := by
  obtain ⟨p, q, h1, h2, h3⟩ := h
  exact .tup (SqT.of h1) (.cons (.tup (SqT.of h2) (nd_all r)) (.cons (.tup (SqT.of h3) (nd_all u)) .nil))
theorem ShAt.same {H H' : Hp} {a : Addr} {r u : List Nat} (e : Same H H') (h : ShAt H a r u) : ShAt H' a r u := by
  obtain ⟨p, q, h1, h2, h3⟩ := h
  exact ⟨p, q, e _ _ h1, e _ _ h2, e _ _ h3⟩
end L2
namespace L2
open PySem PySem.Spec PyProof.Rows
theorem sub_ts : isSubtype (.type "tuple") (.type "set") = pure false := by rw [isSubtype_type]; kernel_rfl
theorem sub_tf : isSubtype (.type "tuple") (.type "frozenset") = pure false := by rw [isSubtype_type]; kernel_rfl
section
variable {prog : Program} {w : World} {A : Around} {E : Value → Shared → Prop} {s : Shared}
abbrev freshSet (led : Bool) : Obj := { cls := .type "set", dict := none, data := .set #[] 0 (.fresh 0 0 led) }
/-- what set(t) leaves -/
def SetMade (prog : Program) (w : World) (s : Shared) (ns : List Int) (n : Nat) (s' : Shared) : Prop := ∃ h' tk, s' = { s with heap := h', toks := tk } ∧
  h'.SetOf (intKind prog w) s.heap.objs.size (fun k' => (firstMet (fun i => ns.getD i 0) n).any (· == k')) (firstMet (fun i => ns.getD i 0) n).length ∧
  ∀ b o, b < s.heap.objs.size → s.heap.get? b = some o → h'.get? b = some o
set_option maxHeartbeats 3200000 in
theorem set_init_tup {l : Addr} {items : Array Value} {ns : List Int} {led : Bool} (hh : A.handled = none) (hl : s.heap.IsTuple l items) (hi : IntsAre items.toList ns) (hb : items.size + 1 < scanBound) :
    wpAny (model prog w) A (Builtin.«set.__init__» ⟨[.ref s.heap.objs.size, .ref l], []⟩) (fun fin s₂ => fin = .done (.ret .none) ∧ SetMade prog w s ns items.size s₂) E { s with heap := s.heap.push (freshSet led) } := by
  have hS : (s.heap.push (freshSet led)).get? s.heap.objs.size = some (freshSet led) := Heap.get?_push_size _ rfl
  obtain ⟨ol, hol, hcl, nl, hdl⟩ := hl
  obtain ⟨oc, od, oda, osl⟩ := ol
  simp only at hcl hdl
  subst hcl; subst hdl
  have hol' := Heap.get?_push_of_some (freshSet led) hol
  have q1 := sub_ts
  have q2 := sub_tf
  have q3 : (Value.type "tuple" == Value.type "dict") = false := by decide
  have hl1 : (s.heap.push (freshSet led)).IsTuple l items := ⟨_, hol', rfl, nl, rfl⟩
  have hlS : l < s.heap.objs.size := Heap.lt_size hol
  unfold Builtin.«set.__init__» noKeywords Builtin.Frozenset.updateFrom
  generalize hPI : pyIter = PI
  wp_walk
  subst hPI
  refine wpAny_pyIter_tuple hl1 (wpAny_bind (wpAny_runValue ?_))
  have hz : (s.heap.push (freshSet led)).objs.size = s.heap.objs.size + 1 := Heap.size_push ..
  rw [hz]
  refine codeAny_set_update_loopS ((Walks.tuple (by simp [hh]) (s.heap.objs.size + 1) l (Nat.ne_of_lt (Nat.lt_succ_of_lt hlS)) items).toS) s.heap.objs.size (fun hm => (List.mem_cons.mp hm).elim (Nat.ne_of_lt (Nat.lt_succ_self _)) fun hm => Nat.ne_of_gt hlS (List.mem_singleton.mp hm)) (fun i => ns.getD i 0) (fun i v hv => IntsAre.int_at hi i v (by rw [Array.getElem?_toList]; exact hv)) hb (items.size - 0) 0 _ (by omega) (Nat.zero_le _)
    ⟨⟨_, hz ▸ Heap.get?_push_size _ rfl, rfl, rfl⟩, ⟨_, Heap.get?_push_of_some _ hol', rfl, nl, rfl⟩⟩ ?_ ?_
  · exact SetOf_congr ((setObjOf_fresh (knd := intKind prog w) led).setOf (Heap.get?_push_of_some _ hS) (by unfold scanBound; omega)) (fun _ => rfl) rfl
  · intro s' hm hS'
    obtain ⟨h', g', d', tk', os'⟩ := s'
    have eg : g' = s.gens := hm.gens
    have ed : d' = s.drawn := hm.drawn
    have eo : os' = s.os := hm.os
    subst eg; subst ed; subst eo
    show wpAny _ _ _ _ _ _
    refine wpAny_pure ?_
    show wpAny _ _ (ret Value.none) _ _ _
    refine wpAny_pure ⟨rfl, h', tk', rfl, hS', fun b o hlt e => ?_⟩
    exact hm.heap b o (fun q => (List.mem_cons.mp q).elim (Nat.ne_of_lt hlt) fun q => Nat.ne_of_lt (Nat.lt_succ_of_lt hlt) (List.mem_singleton.mp q)) (Heap.get?_push_of_some _ (Heap.get?_push_of_some _ e))
/-- set(t), t a tuple of ints -/
theorem call_set_tup {l : Addr} {items : Array Value} {ns : List Int} {Q : Value → Shared → Prop} (hh : A.handled = none) (hl : s.heap.IsTuple l items) (hi : IntsAre items.toList ns) (hb : items.size + 1 < scanBound)
    (h : ∀ s', SetMade prog w s ns items.size s' → Q (.ref s.heap.objs.size) s') : wpAny (model prog w) A (call (.type "set") [.ref l]) Q E s := by
  have m0 := F.called_set.mro
  obtain ⟨c, tl, m1⟩ := m0
  have m2 := F.called_set.made
  have m3 := F.called_set.sub
  have m4 := F.called_set.notType
  have m5 := F.called_set.canCreate
  have m6 := F.typeCall_set_1 (.ref l)
  refine wpAny_call (codeAny_of_tree (show wpAny _ _ (callAny (.type "set") _) _ _ _ from ?_))
  refine wpAny_pure ⟨Code.quiet_builtin _ (by decide +kernel), codeAny_builtin F.entry_type_call ?_⟩
  rw [Around.under_plain (weight_type_call_type "set" [.ref l] []) rfl]
  repeat (any_goals (first | assumption | wp_step))
  refine codeAny_mono (code_set_new_1 (.ref l) (E := E) (Q₁ := fun obj s₁ => ∃ led : Bool, obj = .ref s.heap.objs.size ∧ s₁ = { s with heap := s.heap.push (freshSet led) }) fun led => ⟨led, rfl, rfl⟩) fun r s₁ hr => ?_
  match r, hr with
  | .error e, hr => exact hr
  | .ok .next, hr => exact hr.elim
  | .ok .brk, hr => exact hr.elim
  | .ok .cont, hr => exact hr.elim
  | .ok (.ret obj), hr =>
    obtain ⟨led, rfl, rfl⟩ := hr
    have hT : Shared.TypeIs { s with heap := s.heap.push (freshSet led) } (.ref s.heap.objs.size) "set" := ⟨_, Heap.get?_push_size _ rfl, rfl⟩
    have m7 := F.called_set.init.lookup
    have m8 := F.called_set.init.bind (.ref s.heap.objs.size)
    repeat (any_goals (first | assumption | wp_step))
    refine codeAny_mono (codeAny_call_builtin (R := wants (fun r s₂ => r = .none ∧ SetMade prog w s ns items.size s₂) E) F.called_set.init.plain F.entry_set_init (check_set_init_1 hT ?_)) fun r₂ s₂ hr₂ => ?_
    · refine wpAny_mono (set_init_tup (by simp [hh]) hl hi hb) (fun fin s₂ ⟨e, q⟩ => ?_) fun e s₂ q => q
      subst e
      exact ⟨rfl, q⟩
    · match r₂, hr₂ with
      | .error e, hr₂ => exact hr₂
      | .ok .next, hr₂ => exact hr₂.elim
      | .ok .brk, hr₂ => exact hr₂.elim
      | .ok .cont, hr₂ => exact hr₂.elim
      | .ok (.ret r), hr₂ =>
        obtain ⟨rfl, q⟩ := hr₂
        repeat (any_goals (first | assumption | wp_step))
        exact h _ q
end
end L2
namespace L2
open PySem PySem.Spec PyProof.Rows
section
variable {prog : Program} {w : World} {A : Around} {E : Value → Shared → Prop} {s : Shared}
theorem collect_tup {l : Addr} {vs : List Value} {Q : List Value → Shared → Prop} (hl : s.heap.IsTuple l vs.toArray) (hz : vs.length ≤ sizeLine)
    (h : ∀ h', (∀ b o, s.heap.get? b = some o → h'.get? b = some o) → Q vs { s with heap := h' }) : wpAny (model prog w) A (collect (.ref l)) Q E s := by
  obtain ⟨o, ho, hc, n, hd⟩ := hl
  unfold collect
  refine wpAny_bind (wpAny_runValue (codeAny_builtin entry_proto_collect' ?_))
  show wpAny _ _ (do again (.builtin "list.__iadd__" ⟨[← newList [], .ref l], []⟩)) _ _ s
  refine wpAny_bind (wpAny_newList (wpAny_pure ⟨Code.quiet_builtin _ (by decide +kernel), codeAny_builtin entry_list_iadd' ?_⟩))
  have ho' : (s.heap.push (seqObj "list" #[] 0)).get? l = some o := Heap.get?_push_of_some _ ho
  show wpAny _ _ (Builtin.List.listExtendWith (.ref s.heap.objs.size) (.ref l) (.ref s.heap.objs.size)) _ _ { s with heap := s.heap.push (seqObj "list" #[] 0) }
  unfold Builtin.List.listExtendWith
  refine wpAny_bind (wpAny_typeOf (T := "tuple") ⟨o, ho', hc⟩ ?_)
  rw [if_pos (show (Builtin.List.listSameRef (.ref s.heap.objs.size) (.ref l) || Value.type "tuple" == Value.type "list" || Value.type "tuple" == Value.type "tuple") = true by
    rw [show (Value.type "tuple" == Value.type "tuple") = true from rfl, Bool.or_true])]
  refine wpAny_bind (listItems_at ho' hd (wpAny_bind (listItems_at (xs := #[]) (n := 0) (Heap.get?_push_size _ rfl) rfl ?_)))
  rw [if_neg (by simp)]
  refine wpAny_bind (listUpdate_at (xs := #[]) (n := 0) (Heap.get?_push_size _ rfl) rfl ?_ (Nat.zero_le _) (by show (#[] ++ vs.toArray).size ≤ sizeLine + 1; simp; omega))
  refine wpAny_pure ?_
  refine wpAny_bind (wpAny_load (get?_update_seq (Heap.get?_push_size _ rfl) _) ?_)
  show wpAny _ _ (pure ((#[] : Array Value) ++ vs.toArray).toList) Q E _
  rw [show ((#[] : Array Value) ++ vs.toArray).toList = vs by simp]
  exact wpAny_pure (h _ fun b o e => (Heap.get?_update_other _ _ (Nat.ne_of_gt (Heap.lt_size e))).trans (Heap.get?_push_of_some _ e))
/-- sorted(x), by what collect tells of x -/
theorem sorted_by {x : Value} {vs : List Value} {ns : List Int} {Q : Value → Shared → Prop} (hI : IntsAre vs ns) (h64 : vs.length < 64)
    (hcol : ∀ (A : Around) (R : List Value → Shared → Prop), A.handled = none → (∀ vs ns' h' tk, IntsAre vs ns' → ns' = ns → (∀ b o, s.heap.get? b = some o → h'.get? b = some o) → R vs { s with heap := h', toks := tk }) → wpAny (model prog w) A (collect x) R E s)
    (hh : A.handled = none)
    (h : ∀ (h1 h2 : Heap) (tk e : Nat) (out : Array Value) (ns' : List Int), IntsAre out.toList ns' → ns'.Perm ns → ns'.Pairwise (· ≤ ·) → (∀ b o, s.heap.get? b = some o → h1.get? b = some o) → h2.get? h1.objs.size = some (seqObj "list" out e) →
      (∀ b o, h1.get? b = some o → h2.get? b = some o) → Q (.ref h1.objs.size) { s with heap := h2, toks := tk }) :
    wpAny (model prog w) A (call (.builtin "sorted") [x]) Q E s := by
  refine Calls.call_function_entry kind_sorted plain_sorted entry_sorted (args_sorted1 _) ?_
  unfold Builtin.«sorted»
  refine wpAny_bind (m := checkCount "sorted" 1 1 _) (wpAny_pure ?_)
  refine wpAny_bind (hcol _ _ (by simp [hh]) fun vs ms h' tk hI' e hk => ?_)
  subst e
  have hl : vs.length < 64 := by rw [hI'.length, ← hI.length]; exact h64
  refine wpAny_bind (wpAny_newList ?_)
  refine wpAny_bind (wpAny_holding (wpAny_call_entry slot_list_sort ⟨_, Heap.get?_push_size _ rfl, rfl⟩ entry_list_sort (list_sort_tree (Heap.get?_push_size _ rfl) hI' hl fun out ns' a1 a2 a3 => ⟨_, rfl, ?_⟩) (args_list_sort _)))
  obtain ⟨e, he⟩ := sortedHeap_at (out := out) (n := 0) (show (h'.push (seqObj "list" vs.toArray 0)).get? h'.objs.size = some (seqObj "list" vs.toArray 0) from Heap.get?_push_size _ rfl)
  have old : ∀ b o, h'.get? b = some o → (sortedHeap (h'.push (seqObj "list" vs.toArray 0)) h'.objs.size vs out).get? b = some o := fun b o q1 => by
    have q2 := Heap.lt_size q1
    rw [sortedHeap_old (Nat.ne_of_lt q2) (by rw [Heap.size_push]; exact Nat.lt_succ_of_lt q2)]
    exact Heap.get?_push_of_some _ q1
  exact wpAny_pure ⟨_, rfl, h _ _ _ _ out ns' a1 a2 a3 hk he old⟩
end
end L2
namespace L2
open PySem PySem.Spec PyProof.Rows
section
variable {prog : Program} {w : World} {A : Around} {E : Value → Shared → Prop} {s : Shared}
end
end L2
namespace L2
open PySem PySem.Spec PyProof.Rows

section
variable {X : Cx} {pins : List (Addr × Obj)} {σ : St} {H : Hp} {s : Shared}
/-- records of ours at fp have turned, a new object T is laid and tracked -/
theorem Inv.turnLaid {fp : List Addr} {T : Addr} {o : HO} {h' : Heap} {t' : Nat} (I : Inv X pins σ H s) (hf : ∀ b ∈ fp, FpOk X pins H b) (hT : s.heap.objs.size ≤ T)
    (k : ∀ b ob, b ∉ fp → s.heap.get? b = some ob → h'.get? b = some ob) (new : ObjOk X.prog X.w (upd H T o) h' T o) : Inv X pins σ (upd H T o) { s with heap := h', toks := t' } := by
  have hn : H T = none := I.hok.fresh hT
  have neT : ∀ b ob, s.heap.get? b = some ob → b ≠ T := fun b ob e => Nat.ne_of_lt (Nat.lt_of_lt_of_le (Heap.lt_size e) hT)
  have nfp : ∀ b u, H b = some u → b ∉ fp := fun b u e hb => by rw [(hf b hb).1] at e; cases e
  refine I.step (g' := s.gens) (d' := s.drawn) (ch := fp) (fun b hb => ⟨(hf b hb).2.2.2.1, (hf b hb).2.1, (hf b hb).2.2.2.2.1, (hf b hb).2.2.2.2.2⟩) (fun b ob _ _ hc e _ => k b ob hc e) (fun b ob _ _ hc e _ => ⟨ob.slots, k b ob hc e⟩)
    (fun b ob _ e n => by rw [upd_ne (neT b ob e)]; exact n) (fun b ob hc e => ⟨ob, k b ob hc e⟩) (fun b xs e => by rw [upd_ne (ne_of_none e hn)]; exact e) (fun b ob u e => by rw [upd_ne (ne_of_none e hn)]; exact e)
    (fun b ps e => ⟨#[], by rw [upd_ne (ne_of_none e hn), e]; simp⟩) (fun m hm => ?_) (fun b u e => ?_) I.bare
  · obtain ⟨ob, es, ep, ho, r⟩ := hm
    exact ⟨ob, es, ep, k _ ob (fun hb => (hf _ hb).2.1 rfl) ho, r⟩
  · by_cases hb : b = T
    · subst hb; rw [upd_same] at e; cases e; exact new
    · rw [upd_ne hb] at e
      refine (I.hok b u e).stay (fun c v hc q => k c v ?_ q) (fun c q => by rw [upd_ne (ne_of_none q hn)]; exact q) fun c xs q => by rw [upd_ne (ne_of_none q hn)]; exact q
      rcases hc with z | z
      · rw [z]; exact nfp b u e
      · exact nfp c _ z
/-- records of ours at fp have turned -/
theorem Inv.turnedL {fp : List Addr} {h' : Heap} {t' : Nat} (I : Inv X pins σ H s) (hf : ∀ b ∈ fp, FpOk X pins H b) (k : ∀ b ob, b ∉ fp → s.heap.get? b = some ob → h'.get? b = some ob) : Inv X pins σ H { s with heap := h', toks := t' } := by
  have nfp : ∀ b u, H b = some u → b ∉ fp := fun b u e hb => by rw [(hf b hb).1] at e; cases e
  refine I.step (g' := s.gens) (d' := s.drawn) (ch := fp) (fun b hb => ⟨(hf b hb).2.2.2.1, (hf b hb).2.1, (hf b hb).2.2.2.2.1, (hf b hb).2.2.2.2.2⟩) (fun b ob _ _ hc e _ => k b ob hc e) (fun b ob _ _ hc e _ => ⟨ob.slots, k b ob hc e⟩)
    (fun _ _ _ _ n => n) (fun b ob hc e => ⟨ob, k b ob hc e⟩) (fun _ _ e => e) (fun _ _ _ e => e) (fun b ps e => ⟨#[], by rw [e]; simp⟩) (fun m hm => ?_) (fun b u e => ?_) I.bare
  · obtain ⟨ob, es, ep, ho, r⟩ := hm
    exact ⟨ob, es, ep, k _ ob (fun hb => (hf _ hb).2.1 rfl) ho, r⟩
  · refine (I.hok b u e).stay (fun c v hc q => k c v ?_ q) (fun _ q => q) fun _ _ q => q
    rcases hc with z | z
    · rw [z]; exact nfp b u e
    · exact nfp c _ z
end

/-- enumerate's own pair: a tuple, nothing said of a dict -/
def tupE (T : Addr) (xs : List V) : HO := .ext fun h => xs.length ≤ sizeLine ∧ ∃ its : List Value, Vals xs its ∧ IsTup h T its.toArray
theorem tupE_ok {P : Program} {w : World} {H : Hp} {h : Heap} {T : Addr} {xs : List V} (q : xs.length ≤ sizeLine ∧ ∃ its : List Value, Vals xs its ∧ IsTup h T its.toArray) : ObjOk P w H h T (tupE T xs) := by
  obtain ⟨z, its, r, o, e, c⟩ := id q
  exact ⟨q, ⟨o, e⟩, fun h1 h2 ⟨z', its', r', o', e', c'⟩ k => ⟨z', its', r', o', k _ e', c'⟩⟩
def gTupE (n : Nat) (t : TGs) : TG := fun v σ H Q => ∃ a xs, v = .ref a ∧ H a = some (tupE a xs) ∧ xs.length = n ∧ t xs σ H Q
theorem pg_tupE {es : List Expr} {k : Nat} {t : TGs} {n : Nat} {pos : Pos} (hc : X.calm = true) (h : PGs X es t)
    (hn : (assignEach es X.env).length = n := by rfl) (hst : (assignEach es X.env).findIdx? (·.1) = none := by rfl) : PG X (.Tuple es k pos) (gTupE n t) := by
  intro pins s σ H v u Q I r hw
  obtain ⟨a, xs, e1, hq, hl, hw⟩ := hw
  subst e1
  cases r
  obtain ⟨⟨hz, its, rv, ht⟩, _⟩ := I.hok a _ hq
  refine assign_Tuple_tuple (I.ok.hd hc) ht (by simp [hn, ← hl, rv.length]) hst fun h' hx => ?_
  have I1 : Inv X pins σ H { s with heap := h' } := I.kept (t' := s.toks) fun b o e => hx b o (Nat.ne_of_lt (Heap.lt_size e)) e
  exact h pins _ σ H xs _ Q I1 (by simpa using rv) hw
def Iten (sq : Hp → List V → Prop) : It :=
  ⟨fun i H => ∃ xs x, sq H xs ∧ xs[i]? = some x, fun i H x H' => ∃ T y, H T = none ∧ x = .ref T ∧ (∀ xs, sq H xs → xs[i]? = some y) ∧ H' = upd H T (tupE T [.int (i : Int), y]), fun i H => ∃ xs, sq H xs ∧ xs.length = i⟩

theorem ne_cls {h : Heap} {a b : Addr} {o u : Obj} (h1 : h.get? a = some o) (h2 : h.get? b = some u) (d : o.cls ≠ u.cls) : a ≠ b := by
  intro e; subst e; rw [h1] at h2; cases h2; exact d rfl

theorem turn_enum {P : Program} {w : World} {K : PySem.W.Frag} {elts : List Expr} {k : Nat} {pos : Pos} (sq : Hp → List V → Prop) (isq : Heap → Array Value → Prop) (isit : Nat → Heap → Prop) (e it : Addr)
    (obj : ∀ i h, isit i h → ∃ o, h.get? it = some o ∧ ∀ v, o.data ≠ .cell v) (keep : ∀ i h h', isit i h → (∀ o, h.get? it = some o → h'.get? it = some o) → isit i h')
    (rd : ∀ (X : Cx) (pins : List (Addr × Obj)) (σ : St) (H : Hp) (s : Shared) (xs : List V), X.K = K → Inv X pins σ H s → sq H xs → (∃ its : List Value, Vals xs its ∧ isq s.heap its.toArray) ∧ ∀ ys, sq H ys → ys = xs)
    (W : ∀ (A : Around) (items : Array Value) (h : Heap) (i : Nat), A.handled = none → isq h items → isit i h → (∃ old, IsEnum h e it i old) → ∃ fp Mid, WalksT P w A e fp [e, it] items.size (fun i vals => ∃ t x, items[i]? = some x ∧ vals = #[.int (i : Int) t, x])
      (fun i h => (∃ old, IsEnum h e it i old) ∧ isit i h ∧ isq h items) Mid) :
    Turn P w K (.Tuple elts k pos) (Iten sq) [e, it] e (fun i h => (∃ old, IsEnum h e it i old) ∧ isit i h) where
  mem := by simp
  obj := fun i h st b hb => by
    obtain ⟨⟨old, he⟩, q⟩ := st
    rcases List.mem_cons.mp hb with rfl | hb
    · exact ⟨_, he, fun v z => nomatch z⟩
    · rw [List.mem_singleton.mp hb]; exact obj i h q
  keep := fun i h h' st kp => ⟨let ⟨old, he⟩ := st.1; ⟨old, kp e (by simp) _ he⟩, keep i h h' st.2 fun o q => kp it (by simp) o q⟩
  item := by
    intro X hP hw hK hc i pins s σ H E I hf st hg
    subst hP hw
    obtain ⟨xs, x, hq, hx⟩ := hg
    obtain ⟨⟨its, rv, hL⟩, inj⟩ := rd X pins σ H s xs hK I hq
    obtain ⟨old, he⟩ := id st.1
    obtain ⟨oi, hoi, _⟩ := obj _ _ st.2
    have hlt : i < its.toArray.size := by
      have := (List.getElem?_eq_some_iff.mp hx).1
      rw [rv.length] at this; simpa using this
    obtain ⟨fp, Mid, W⟩ := W X.A its.toArray s.heap i (I.ok.hd hc) hL st.2 st.1
    refine W.item i s _ E hlt ⟨st.1, st.2, hL⟩ fun T vals h' tk hPt hT htup hMid hk => ⟨.ref T, rfl, ?_⟩
    refine W.go elts k pos i T _ _ E hMid fun h'' hSt hk2 => ?_
    obtain ⟨t, y', hy', rfl⟩ := hPt
    obtain ⟨u, hu, ry⟩ := rv.get hx
    have e1 : y' = u := by
      have : its[i]? = some y' := by simpa using hy'
      rw [hu] at this; exact (Option.some.inj this).symm
    subst e1
    have htup2 : IsTup h'' T #[.int (i : Int) t, y'] := by
      obtain ⟨o, q1, q2⟩ := htup
      exact ⟨o, hk2 T o (W.apart _ _ _ hMid) q1, q2⟩
    refine ⟨.ref T, upd H T (tupE T [.int (i : Int), x]), ?_, rfl, ⟨T, x, I.hok.fresh hT, rfl, fun zs hzs => by rw [inj zs hzs]; exact hx, rfl⟩, ⟨hSt.1, hSt.2.1⟩, fun b hb => ?_⟩
    · exact I.turnLaid (s := s) (h' := h'') (t' := tk) hf hT (fun b ob hb q => hk2 b ob hb (hk b ob hb q)) (tupE_ok ⟨by show 2 ≤ sizeLine; decide, [.int (i : Int) t, y'], .cons ⟨t, rfl⟩ (.cons ry .nil), htup2⟩)
    · have hbT : b ≠ T := fun z => by
        have : b < s.heap.objs.size := by
          rcases List.mem_cons.mp hb with rfl | hb
          · exact Heap.lt_size he
          · rw [List.mem_singleton.mp hb]; exact Heap.lt_size hoi
        exact absurd (Nat.lt_of_lt_of_le this hT) (by rw [z]; exact Nat.lt_irrefl _)
      rw [upd_ne hbT]; exact (hf b hb).1
  done := by
    intro X hP hw hK hc i pins s σ H E I hf st hs
    subst hP hw
    obtain ⟨xs, hq, hle⟩ := hs
    obtain ⟨⟨its, rv, hL⟩, inj⟩ := rd X pins σ H s xs hK I hq
    obtain ⟨fp, Mid, W⟩ := W X.A its.toArray s.heap i (I.ok.hd hc) hL st.2 st.1
    have hi : i = its.toArray.size := by rw [← hle, rv.length]; simp
    refine W.done s _ E (by rw [← hi]; exact ⟨st.1, st.2, hL⟩) fun h' tk hk => ⟨rfl, ?_⟩
    exact I.turnedL hf hk
  self := fun A i s Q E st h => by obtain ⟨⟨old, he⟩, _⟩ := st; exact wpAny_pyIter_enum he h

section
variable {X : Cx} {elts : List Expr} {k : Nat} {tpos : Pos}
def iEnumL (K : PySem.W.Frag) (ta : TA) : TI := fun σ H R => ta σ H fun vs H1 => ∃ a, vs = [.ref a] ∧ (∃ xs, SqL K H1 a xs) ∧ R (Iten fun H xs => SqL K H a xs) H1
def iEnumT (K : PySem.W.Frag) (ta : TA) : TI := fun σ H R => ta σ H fun vs H1 => ∃ a, vs = [.ref a] ∧ (∃ xs, SqT K H1 a xs) ∧ R (Iten fun H xs => SqT K H a xs) H1
theorem boot_enum : bootBuiltins "enumerate" = some (.type "enumerate") := by decide +kernel
theorem pi_enumL {l : Expr} {ta : TA} {p pos : Pos} (hg : Gl X "enumerate") (hm : X.mg "enumerate" = none) (ha : PA X [l] ta) (hs : starEach [l] X.env = [(false, eval l X.env)] := by rfl) :
    PI X (.Tuple elts k tpos) (.Call (.Name "enumerate" p) [l] [] pos) (iEnumL X.K ta) := by
  intro pins s σ H R I h
  refine Call_ (ld_blt I hg hm boot_enum (PyProof.Rows.callWith_type1 (thn (ha pos pins s σ H _ I h) fun us s1 ⟨vs, H1, I1, r1, q1⟩ => ?_) hs rfl))
  obtain ⟨a, rfl, ⟨xs, hq⟩, q⟩ := q1
  obtain ⟨u, rfl, ru⟩ := vals1 r1
  obtain rfl : u = Value.ref a := ru
  obtain ⟨its, rv, p, hz⟩ := I1.list hq
  have ha : a < s1.heap.objs.size := by obtain ⟨o, ho, _⟩ := p.isList; exact Heap.lt_size ho
  refine call_enumerate_list p.isList fun h' he hit hsz hk => ?_
  refine wpAny_pyIter_enum he ?_
  have I2 : Inv X pins σ H1 { s1 with heap := h' } := I1.kept (t' := s1.toks) hk
  refine ⟨s1.heap.objs.size + 1, [s1.heap.objs.size + 1, s1.heap.objs.size], _, _, H1, rfl, I2, turn_enum (fun H xs => SqL X.K H a xs) (fun h its => h.IsList a its) (fun i h => h.IsListIter s1.heap.objs.size a i) (s1.heap.objs.size + 1) s1.heap.objs.size ?_ ?_ ?_ ?_, ⟨⟨_, he⟩, hit⟩, fun b hb => ?_, q⟩
  · rintro i h ⟨o, q1, q2, q3⟩
    exact ⟨o, q1, fun v z => by rw [q3] at z; cases z⟩
  · intro i h h' st kp
    exact st.at kp
  · intro X' pins' σ' H' s' ys hK I' hq'
    rw [← hK] at hq'
    obtain ⟨its', rv', p', _⟩ := I'.list hq'
    exact ⟨⟨its', rv', p'.isList⟩, fun zs hz => I'.list_inj (by rw [hK]; exact hz) hq'⟩
  · intro A items h i hh hL hI hE
    obtain ⟨old, hE⟩ := hE
    obtain ⟨ol, hol, hcl, _⟩ := id hL
    obtain ⟨oi, hoi, hci, _⟩ := id hI
    exact ⟨_, _, WalksT.enumerate hh _ _ a (Nat.succ_ne_self _) (ne_cls hol hE (by rw [hcl]; show Value.type "list" ≠ Value.type "enumerate"; decide)) (ne_cls hol hoi (by rw [hcl, hci]; decide)) items⟩
  · rcases List.mem_cons.mp hb with rfl | hb
    · exact I1.fpOk (Nat.le_succ _) (I1.hok.fresh (Nat.le_succ _))
    · rw [List.mem_singleton.mp hb]; exact I1.fpOk (Nat.le_refl _) (I1.hok.fresh (Nat.le_refl _))
theorem pi_enumT {l : Expr} {ta : TA} {p pos : Pos} (hg : Gl X "enumerate") (hm : X.mg "enumerate" = none) (ha : PA X [l] ta) (hs : starEach [l] X.env = [(false, eval l X.env)] := by rfl) :
    PI X (.Tuple elts k tpos) (.Call (.Name "enumerate" p) [l] [] pos) (iEnumT X.K ta) := by
  intro pins s σ H R I h
  refine Call_ (ld_blt I hg hm boot_enum (PyProof.Rows.callWith_type1 (thn (ha pos pins s σ H _ I h) fun us s1 ⟨vs, H1, I1, r1, q1⟩ => ?_) hs rfl))
  obtain ⟨a, rfl, ⟨xs, hq⟩, q⟩ := q1
  obtain ⟨u, rfl, ru⟩ := vals1 r1
  obtain rfl : u = Value.ref a := ru
  obtain ⟨its, rv, p, hz⟩ := I1.tuple hq
  refine call_enumerate_tuple (show s1.heap.IsTuple a its.toArray from p) fun h' he hit hsz hk => ?_
  refine wpAny_pyIter_enum he ?_
  have I2 : Inv X pins σ H1 { s1 with heap := h' } := I1.kept (t' := s1.toks) hk
  refine ⟨s1.heap.objs.size + 1, [s1.heap.objs.size + 1, s1.heap.objs.size], _, _, H1, rfl, I2, turn_enum (fun H xs => SqT X.K H a xs) (fun h its => h.IsTuple a its) (fun i h => h.IsTupleIter s1.heap.objs.size a i) (s1.heap.objs.size + 1) s1.heap.objs.size ?_ ?_ ?_ ?_, ⟨⟨_, he⟩, hit⟩, fun b hb => ?_, q⟩
  · rintro i h ⟨o, q1, q2, q3⟩
    exact ⟨o, q1, fun v z => by rw [q3] at z; cases z⟩
  · rintro i h h' ⟨o, q1, q2⟩ kp
    exact ⟨o, kp o q1, q2⟩
  · intro X' pins' σ' H' s' ys hK I' hq'
    rw [← hK] at hq'
    obtain ⟨its', rv', p', _⟩ := I'.tuple hq'
    exact ⟨⟨its', rv', p'⟩, fun zs hz => I'.tuple_inj (by rw [hK]; exact hz) hq'⟩
  · intro A items h i hh hL hI hE
    obtain ⟨old, hE⟩ := hE
    obtain ⟨ol, hol, hcl, _⟩ := id hL
    obtain ⟨oi, hoi, hci, _⟩ := id hI
    have hne : a ≠ s1.heap.objs.size := ne_cls hol hoi (by rw [hcl, hci]; decide)
    have hne2 : a ≠ s1.heap.objs.size + 1 := ne_cls hol hE (by rw [hcl]; show Value.type "tuple" ≠ Value.type "enumerate"; decide)
    exact ⟨_, _, WalksT.enumerateD (Draws_tuple (A := A.in1) hh s1.heap.objs.size a hne items) (s1.heap.objs.size + 1) (Nat.succ_ne_self _) (fun hm => (List.mem_cons.mp hm).elim (Nat.succ_ne_self _) fun hm => hne2 (List.mem_singleton.mp hm).symm) (by simp)⟩
  · rcases List.mem_cons.mp hb with rfl | hb
    · exact I1.fpOk (Nat.le_succ _) (I1.hok.fresh (Nat.le_succ _))
    · rw [List.mem_singleton.mp hb]; exact I1.fpOk (Nat.le_refl _) (I1.hok.fresh (Nat.le_refl _))
end
end L2
namespace L2
open PySem PySem.Spec PyProof.Rows

theorem rel_of_kind {P : Program} {w : World} {k : Key} {u : Value} (h : (mixKind P w).is k u = true) : RelV (kV k) u := by
  rcases keyIs_shape (show keyIs k u = true from h) with ⟨i, t, rfl, rfl⟩ | ⟨x, t, rfl, rfl⟩
  · exact ⟨t, rfl⟩
  · exact ⟨t, rfl⟩
section
variable {X : Cx} {elts : List Expr} {k : Nat} {tpos : Pos}
end

section
variable {X : Cx}
theorem call_all_bools (hc : X.calm = true) : CallR X (.builtin "all") (fun xs H Q => ∃ (p : Addr) (bs : List Bool), xs = [.ref p] ∧ SqL X.K H p (bs.map V.bl) ∧ Q (.bl (bs.all id)) H) := by
  intro pins s σ H xs us Q I r h
  obtain ⟨p, bs, rfl, hq, q⟩ := h
  obtain ⟨u, rfl, ru⟩ := vals1 r
  obtain rfl : u = Value.ref p := ru
  obtain ⟨its, rv, pl, hz⟩ := I.list hq
  have hL := pl.isList
  have hlt : p < s.heap.objs.size := by obtain ⟨o, ho, _⟩ := id hL; exact Heap.lt_size ho
  have hlen : its.length = bs.length := by rw [← rv.length]; simp
  refine call_all_walkS (wpAny_pyIter_list hL ⟨s.heap.objs.size, _, _, _, its.toArray.size, _, _, fun i => bs.getD i true, rfl, (Walks.list (A := X.A.in1) (I.ok.hd hc) s.heap.objs.size p (Nat.ne_of_lt hlt) its.toArray).toS, ⟨⟨_, Heap.get?_push_size _ rfl, rfl, rfl⟩, hL.push _⟩, ?_, fun s' hm => ?_⟩)
  · intro i v s2 Q2 E2 hP hQ
    have hv : its[i]? = some v := by simpa using hP
    have hi : i < bs.length := by rw [← hlen]; exact (List.getElem?_eq_some_iff.mp hv).1
    have hb : (bs.map V.bl)[i]? = some (.bl bs[i]) := by simp [hi]
    obtain ⟨u, hu, ru⟩ := rv.get hb
    rw [hv] at hu; cases hu
    obtain rfl : v = Value.bool bs[i] := ru
    have e : bs.getD i true = bs[i] := by simp [List.getD_eq_getElem?_getD, hi]
    simp only [e] at hQ
    exact wpAny_truthy_bool hQ
  · rw [Moved.eq_with hm]
    refine ⟨.bl _, H, I.kept (h' := s'.heap) (t' := s'.toks) fun b o e => hm.heap b o (fun z => ?_) (Heap.get?_push_of_some _ e), rfl, ?_⟩
    · exact absurd (Heap.lt_size e) (by rw [List.mem_singleton.mp z]; exact Nat.lt_irrefl _)
    · have e : (List.range its.toArray.size).all (fun i => bs.getD i true) = bs.all id := by
        have : its.toArray.size = bs.length := by simpa using hlen
        rw [this]
        apply Bool.eq_iff_iff.mpr
        simp only [List.all_eq_true, List.mem_range, id]
        constructor
        · intro h b hb
          obtain ⟨i, hi, rfl⟩ := List.mem_iff_getElem.mp hb
          have := h i hi
          simpa [List.getD_eq_getElem?_getD, hi] using this
        · intro h i hi
          have := h bs[i] (List.getElem_mem hi)
          simpa [List.getD_eq_getElem?_getD, hi] using this
      rw [e]; exact q
theorem call_range1 : CallR X (.type "range") (fun xs H Q => ∃ j : Int, xs = [.int j] ∧ ∀ r, H r = none → Q (.ref r) (upd H r (.rng 0 j))) := by
  intro pins s σ H xs us Q I r h
  obtain ⟨j, rfl, q⟩ := h
  obtain ⟨u, rfl, t, rfl⟩ := vals1 r
  refine call_range_1 ⟨.ref s.heap.objs.size, _, I.laid (a := s.heap.objs.size) (o := .rng 0 j) (fun _ _ e => Heap.get?_push_of_some _ e) (Nat.le_refl _) ⟨_, _, _, Heap.get?_push_size _ rfl⟩, rfl, q _ (I.hok.fresh (Nat.le_refl _))⟩
theorem call_list_rng (hc : X.calm = true) : CallR X (.type "list") (fun xs H Q => ∃ (r : Addr) (n : Nat), xs = [.ref r] ∧ H r = some (.rng 0 (n : Int)) ∧ n ≤ 1000 ∧ ∀ l, H l = none → Q (.ref l) (upd H l (.lst (nv (List.range n))))) := by
  intro pins s σ H xs us Q I r h
  obtain ⟨a, n, rfl, ha, hn, q⟩ := h
  obtain ⟨u, rfl, ru⟩ := vals1 r
  obtain rfl : u = Value.ref a := ru
  obtain ⟨t, u', v', e⟩ := (show ObjOk X.prog X.w H s.heap a (.rng 0 (n : Int)) from I.hok a _ ha)
  refine call_list_range (n := n) (I.ok.hd hc) (show IsRange s.heap a 0 (n : Int) 1 t u' v' from e) (small_one (by decide) (by decide) (by omega) (by omega)) (by rw [rangeSize_one]; split <;> omega) (by omega) fun h' tk acc c hk hacc hI => ?_
  refine ⟨.ref s.heap.objs.size, _, I.laid (a := s.heap.objs.size) (o := .lst (nv (List.range n))) (h' := h') (t' := tk) hk (Nat.le_refl _) ⟨?_, acc.toList, c, ?_, by simpa using hacc⟩, rfl, q _ (I.hok.fresh (Nat.le_refl _))⟩
  · rw [nv_len, List.length_range]; exact Nat.le_of_lt (small1000 hn)
  · obtain ⟨hsz, hi⟩ := hI
    have key : ∀ (m : Nat) (l : List Value), l.length = m → (∀ (j : Nat) (v : Value), l[j]? = some v → ∃ t, v = Value.int ((0 : Int) + (j : Nat) * 1) t) → Vals (nv (List.range m)) l := by
      intro m
      induction m with
      | zero => intro l hl _; rw [List.length_eq_zero_iff.mp hl]; exact .nil
      | succ m ih =>
        intro l hl hv
        have hne : l ≠ [] := by intro e; rw [e] at hl; simp at hl
        rw [← List.dropLast_concat_getLast hne, List.range_succ]
        have e1 : nv (List.range m ++ [m]) = nv (List.range m) ++ nv [m] := by simp [nv]
        rw [e1]
        refine Vals.append (ih l.dropLast (by simp [hl]) fun j v hj => ?_) (.cons ?_ .nil)
        · have hjl : j < l.dropLast.length := (List.getElem?_eq_some_iff.mp hj).1
          refine hv j v ?_
          rw [List.getElem?_dropLast] at hj
          split at hj
          · exact hj
          · cases hj
        · obtain ⟨t, e⟩ := hv m (l.getLast hne) (by rw [List.getLast_eq_getElem, ← List.getElem?_eq_getElem]; congr 1; omega)
          exact ⟨t, by rw [e]; congr 1; omega⟩
    exact key n acc.toList (by simpa using hsz) fun j v hj => hi j v (by simpa using hj)

/-- what may be sorted: a list, a tuple, the keys of a dict -/
def SortSrc (K : PySem.W.Frag) (H : Hp) (p : Addr) (r : List Nat) : Prop := SqL K H p (nv r) ∨ SqT K H p (nv r) ∨ ∃ kvs, H p = some (.dK kvs) ∧ kvs.map (·.1) = r.map fun (n : Nat) => Sum.inl (n : Int)
theorem ints_nv : ∀ {r : List Nat} {us : List Value}, Vals (nv r) us → IntsAre us (r.map fun (n : Nat) => (n : Int)) := fun {r us} h => intsAre_of (by rw [List.map_map]; exact h)
theorem nats_of {ms : List Int} {r : List Nat} (p : ms.Perm (r.map fun (n : Nat) => (n : Int))) (so : ms.Pairwise (· ≤ ·)) : ∃ S : List Nat, ms = S.map (fun (n : Nat) => (n : Int)) ∧ S.Perm r ∧ S.Pairwise (· ≤ ·) := by
  have hn : ∀ m ∈ ms, 0 ≤ m := fun m hm => by
    obtain ⟨n, _, rfl⟩ := List.mem_map.mp (p.mem_iff.mp hm)
    exact Int.natCast_nonneg n
  have e : ms = (ms.map Int.toNat).map fun (n : Nat) => (n : Int) := by
    rw [List.map_map]
    conv => lhs; rw [← List.map_id ms]
    exact List.map_congr_left fun m hm => by simp [Int.toNat_of_nonneg (hn m hm)]
  refine ⟨ms.map Int.toNat, e, ?_, ?_⟩
  · have := p.map Int.toNat
    rw [List.map_map] at this
    have e2 : r.map (Int.toNat ∘ fun (n : Nat) => (n : Int)) = r := by
      conv => rhs; rw [← List.map_id r]
      exact List.map_congr_left fun m _ => by simp
    rw [e2] at this; exact this
  · exact List.pairwise_map.mpr (so.imp_of_mem fun ha hb h => by have := hn _ ha; have := hn _ hb; omega)
theorem vals_of_ints {us : List Value} {S : List Nat} (h : IntsAre us (S.map fun (n : Nat) => (n : Int))) : Vals (nv S) us := by
  have := vals_ints h
  rw [List.map_map] at this
  exact this
def rSorted (K : PySem.W.Frag) : List V → Hp → VK → Prop := fun xs H Q => ∃ (p : Addr) (r : List Nat), xs = [.ref p] ∧ SortSrc K H p r ∧ r.length < 64 ∧ ∀ l S, H l = none → S.Perm r → S.Pairwise (· ≤ ·) → Q (.ref l) (upd H l (.lst (nv S)))
theorem call_sorted (hc : X.calm = true) : CallR X (.builtin "sorted") (rSorted X.K) := by
  intro pins s σ H xs us Q I rr h
  obtain ⟨p, r, rfl, src, h64, q⟩ := h
  obtain ⟨u, rfl, ru⟩ := vals1 rr
  obtain rfl : u = Value.ref p := ru
  have hh := I.ok.hd hc
  have fin : ∀ (vs : List Value), IntsAre vs (r.map fun (n : Nat) => (n : Int)) →
      (∀ (A : Around) (R : List Value → Shared → Prop), A.handled = none → (∀ vs ns' h' tk, IntsAre vs ns' → ns' = (r.map fun (n : Nat) => (n : Int)) → (∀ b o, s.heap.get? b = some o → h'.get? b = some o) → R vs { s with heap := h', toks := tk }) → wpAny (model X.prog X.w) A (collect (.ref p)) R X.xe s) →
      wpAny (model X.prog X.w) X.A (call (.builtin "sorted") [.ref p]) (EP X pins σ Q) X.xe s := by
    intro vs hI hcol
    refine sorted_by hI (by rw [hI.length, List.length_map]; exact h64) hcol hh fun h1 h2 tk e out ns' a1 a2 a3 hk ho hk2 => ?_
    obtain ⟨S, rfl, pS, sS⟩ := nats_of a2 a3
    have I1 : Inv X pins σ H { s with heap := h1, toks := tk } := I.kept hk
    have hlen : S.length < 64 := by rw [pS.length_eq]; exact h64
    refine ⟨.ref h1.objs.size, _, I1.laid (a := h1.objs.size) (o := .lst (nv S)) (h' := h2) (t' := tk) hk2 (Nat.le_refl _) ⟨?_, out.toList, e, vals_of_ints a1, by simpa using ho⟩, rfl, q _ S (I1.hok.fresh (Nat.le_refl _)) pS sS⟩
    rw [nv_len]; exact Nat.le_of_lt (small1000 (by omega))
  rcases src with hq | hq | ⟨kvs, hd, hkeys⟩
  · obtain ⟨its, rv, pl, hz⟩ := I.list hq
    refine fin its (ints_nv rv) fun A R hA hR => ?_
    refine collect_list pl.isList (hR its _ _ s.toks (ints_nv rv) rfl fun b o e => ?_) (by rw [← rv.length]; exact hz)
    exact (Heap.get?_update_other _ _ (Nat.ne_of_gt (Heap.lt_size e))).trans (Heap.get?_push_of_some _ e)
  · obtain ⟨its, rv, pl, hz⟩ := I.tuple hq
    refine fin its (ints_nv rv) fun A R hA hR => ?_
    exact collect_tup (show s.heap.IsTuple p its.toArray from pl) (by rw [← rv.length]; exact hz) fun h' hk => hR its _ _ s.toks (ints_nv rv) rfl hk
  · obtain ⟨z, hs, vs, rv, dd⟩ := dk_of I.hok hd
    obtain ⟨ep, da⟩ := dd.dictAt
    have hks : vs.map (·.1) = r.map fun (n : Nat) => Sum.inl (n : Int) := by rw [← rv.keys]; exact hkeys
    have key : ∀ (l : List Value), l.length = vs.length → (∀ (j : Nat) (v : Value), l[j]? = some v → ∃ k x, vs[j]? = some (k, x) ∧ (mixKind X.prog X.w).is k v = true) → IntsAre l (r.map fun (n : Nat) => (n : Int)) := by
      intro l hl hj
      refine ints_nv ?_
      have hlr : l.length = r.length := by rw [hl]; simpa using congrArg List.length hks
      have : ∀ (r' : List Nat) (l' : List Value), l'.length = r'.length → (∀ (j : Nat) (v : Value), l'[j]? = some v → ∃ n, r'[j]? = some n ∧ ∃ t, v = Value.int (n : Int) t) → Vals (nv r') l' := by
        intro r'
        induction r' with
        | nil => intro l' hl _; rw [List.length_eq_zero_iff.mp hl]; exact .nil
        | cons n r' ih =>
          intro l' hl hj
          cases l' with
          | nil => simp at hl
          | cons v l' =>
            obtain ⟨m, em, t, ev⟩ := hj 0 v rfl
            simp at em
            subst em
            exact .cons ⟨t, ev⟩ (ih l' (by simpa using hl) fun j v hv => by simpa using hj (j + 1) v (by simpa using hv))
      refine this r l hlr fun j v hv => ?_
      obtain ⟨k, x, e1, e2⟩ := hj j v hv
      have e3 : (r.map fun (n : Nat) => (Sum.inl (n : Int) : Key))[j]? = some k := by rw [← hks, List.getElem?_map, e1]; rfl
      rw [List.getElem?_map] at e3
      cases en : r[j]? with
      | none => rw [en] at e3; cases e3
      | some n =>
        rw [en] at e3
        have e4 : (Sum.inl (n : Int) : Key) = k := Option.some.inj e3
        subst e4
        obtain ⟨t, et⟩ := (show ∃ t, v = Value.int (n : Int) t from rel_of_kind e2)
        exact ⟨n, rfl, t, et⟩
    obtain ⟨l0, hl0, hj0⟩ : ∃ l : List Value, l.length = vs.length ∧ ∀ (j : Nat) (v : Value), l[j]? = some v → ∃ k x, vs[j]? = some (k, x) ∧ (mixKind X.prog X.w).is k v = true := by
      refine ⟨vs.map fun kv => match kv.1 with | Sum.inl i => Value.int i 0 | Sum.inr x => Value.str x 0, by simp, fun j v hv => ?_⟩
      rw [List.getElem?_map] at hv
      cases e : vs[j]? with
      | none => rw [e] at hv; cases hv
      | some kv =>
        rw [e] at hv
        obtain ⟨k, x⟩ := kv
        refine ⟨k, x, rfl, ?_⟩
        cases k with
        | inl i => cases hv; exact mixKind_int _ _ i 0
        | inr x => cases hv; exact mixKind_str _ _ x 0
    refine fin l0 (key l0 hl0 hj0) fun A R hA hR => ?_
    refine PySem.W.kdu_collect (PySem.W.kdl_dict (knd := mixKind X.prog X.w) (kvs := vs) (ep := ep) hs) hA da (by rw [← rv.length]; exact z) fun h' tk acc hk hacc => ?_
    exact hR acc.toList _ h' tk (key acc.toList (by simpa using hacc.1) fun j v hv => hacc.2 j v (by simpa using hv)) rfl hk

/-- set(row): a set of so many numbers -/
def dcount (r : List Nat) : Nat := (firstMet (fun i => (r.map fun (n : Nat) => (n : Int)).getD i 0) r.length).length
def rSet (K : PySem.W.Frag) : List V → Hp → VK → Prop := fun xs H Q => ∃ (p : Addr) (r : List Nat), xs = [.ref p] ∧ (SqL K H p (nv r) ∨ SqT K H p (nv r)) ∧ r.length ≤ 1000 ∧ ∀ d S, H d = none → Q (.ref d) (upd H d (.set S (dcount r)))
theorem call_set (hc : X.calm = true) : CallR X (.type "set") (rSet X.K) := by
  intro pins s σ H xs us Q I rr h
  obtain ⟨p, r, rfl, src, hl, q⟩ := h
  obtain ⟨u, rfl, ru⟩ := vals1 rr
  obtain rfl : u = Value.ref p := ru
  have hh := I.ok.hd hc
  have fin : ∀ {its : List Value} {h' : Heap} {tk : Nat}, its.length = r.length → h'.SetOf (intKind X.prog X.w) s.heap.objs.size (fun k' => (firstMet (fun i => (r.map fun (n : Nat) => (n : Int)).getD i 0) its.toArray.size).any (· == k')) (firstMet (fun i => (r.map fun (n : Nat) => (n : Int)).getD i 0) its.toArray.size).length →
      (∀ b o, b < s.heap.objs.size → s.heap.get? b = some o → h'.get? b = some o) → EP X pins σ Q (.ref s.heap.objs.size) { s with heap := h', toks := tk } := by
    intro its h' tk hlen hS hk
    have e : its.toArray.size = r.length := by simpa using hlen
    rw [e] at hS
    exact ⟨.ref s.heap.objs.size, _, I.laid (a := s.heap.objs.size) (o := .set _ (dcount r)) (fun b o z => hk b o (Heap.lt_size z) z) (Nat.le_refl _) hS, rfl, q _ _ (I.hok.fresh (Nat.le_refl _))⟩
  rcases src with hq | hq
  · obtain ⟨its, rv, pl, hz⟩ := I.list hq
    have hlen : its.length = r.length := by rw [← rv.length, nv_len]
    exact call_set_list hh pl.isList (by simpa using ints_nv rv) (by unfold scanBound; simp; omega) fun h' tk hS hk => fin hlen hS hk
  · obtain ⟨its, rv, pl, hz⟩ := I.tuple hq
    have hlen : its.length = r.length := by rw [← rv.length, nv_len]
    refine call_set_tup hh (show s.heap.IsTuple p its.toArray from pl) (by simpa using ints_nv rv) (by unfold scanBound; simp; omega) fun s' hs' => ?_
    obtain ⟨h', tk, rfl, hS, hk⟩ := hs'
    exact fin hlen hS hk
theorem dcount_nd {r : List Nat} (h : r.Nodup) : dcount r = r.length := by
  unfold dcount
  have key : ∀ n, n ≤ r.length → firstMet (fun i => (r.map fun (n : Nat) => (n : Int)).getD i 0) n = (r.take n).map fun (n : Nat) => (n : Int) := by
    intro n
    induction n with
    | zero => intro _; rfl
    | succ n ih =>
      intro hn
      have hlt : n < r.length := hn
      rw [firstMet_succ, ih (by omega), List.take_add_one, List.getElem?_eq_getElem hlt]
      have e : (r.map fun (n : Nat) => (n : Int)).getD n 0 = (r[n] : Int) := by simp [List.getD_eq_getElem?_getD, hlt]
      rw [e]
      unfold step_dedup
      rw [if_neg]
      · rw [List.map_append]; rfl
      · intro hc
        have hmem : r[n] ∈ r.take n := by
          rw [List.any_eq_true] at hc
          obtain ⟨z, hz, ez⟩ := hc
          obtain ⟨m, hm, rfl⟩ := List.mem_map.mp hz
          have : m = r[n] := by have := beq_iff_eq.mp ez; omega
          rw [← this]; exact hm
        obtain ⟨i, hi, ei⟩ := List.mem_iff_getElem.mp hmem
        have hi' : i < n := by simp at hi; omega
        have : r[i] = r[n] := by rw [← ei]; simp
        have hp := List.pairwise_iff_getElem.mp h i n (by omega) hlt hi'
        exact hp this
  rw [key r.length (Nat.le_refl _)]
  simp
theorem call_len_set' : CallR X (.builtin "len") (fun xs H Q => ∃ (p : Addr) (S : Int → Bool) (n : Nat), xs = [.ref p] ∧ H p = some (.set S n) ∧ Q (.int (n : Int)) H) := by
  intro pins s σ H xs us Q I r h
  obtain ⟨p, S, n, rfl, hp, q⟩ := h
  obtain ⟨u, rfl, ru⟩ := vals1 r
  obtain rfl : u = Value.ref p := ru
  obtain ⟨o, es, ep, t, h1, h2, h3, h4, h5, h6, h7, h8⟩ := (show ObjOk X.prog X.w H s.heap p (.set S n) from I.hok p _ hp)
  refine call_len_set h1 h2 h3 h7 (by unfold scanBound at h6; omega) ⟨.int (n : Int), H, I.tok _, ⟨_, by rw [h8]⟩, q⟩

end
end L2
namespace L2
open PySem PySem.Spec PyProof.Rows
/-- for i, x in enumerate(xs), xs left as it is -/
theorem for_en {sq : Hp → List V → Prop} {xs : List V} {g : TG} {tb : TS} {D : Ends} {σ : St} {H : Hp} (Pv : Nat → St → Hp → Prop) (h0 : Pv 0 σ H) (hl : ∀ i σ H, i ≤ xs.length → Pv i σ H → sq H xs)
    (hs : ∀ i x σ H T, xs[i]? = some x → H T = none → Pv i σ H → g (.ref T) σ (upd H T (tupE T [.int (i : Int), x])) fun σ2 H2 => tb { D with nx := Pv (i + 1), ct := Pv (i + 1), bk := D.nx } σ2 H2) (hd : ∀ σ H, Pv xs.length σ H → D.nx σ H) :
    ∃ W : Nat → Nat → St → Hp → Prop, (∃ m, W 0 m σ H) ∧ ∀ i m σ H, W i m σ H →
      ((Iten sq).stop i H ∧ D.nx σ H) ∨ ((Iten sq).go i H ∧ ∃ N : St → Hp → Prop, (∀ σ' H', N σ' H' → ∃ m', m' < m ∧ W (i + 1) m' σ' H') ∧ ∀ x H', (Iten sq).yld i H x H' → g x σ H' fun σ2 H2 => tb { D with nx := N, ct := N, bk := D.nx } σ2 H2) := by
  refine ⟨fun i m σ H => m = xs.length - i ∧ i ≤ xs.length ∧ Pv i σ H, ⟨xs.length, by simp, Nat.zero_le _, h0⟩, ?_⟩
  rintro i m σ H ⟨rfl, hi, p⟩
  have q := hl i σ H hi p
  by_cases hlt : i < xs.length
  · refine .inr ⟨⟨xs, xs[i], q, by simp [hlt]⟩, Pv (i + 1), fun σ' H' p' => ⟨xs.length - (i + 1), by omega, rfl, hlt, p'⟩, fun x H' y => ?_⟩
    obtain ⟨T, z, hT, rfl, hz, rfl⟩ := y
    exact hs i z σ H T (hz xs q) hT p
  · have e : i = xs.length := by omega
    subst e
    exact .inl ⟨⟨xs, q, rfl⟩, hd σ H p⟩
/-- behind an element of a comprehension: n in all, ys the list that comes -/
def CPost (n : Nat) (ys : List V) (Pv : Nat → St → Hp → Prop) (d : Addr) (i : Nat) (σ3 : St) (y : V) (H4 : Hp) : Prop :=
  ∃ xs, H4 d = some (.lst xs) ∧ xs.length < sizeLine ∧ ∃ m', m' < n - i ∧ m' = n - (i + 1) ∧ i + 1 ≤ n ∧ Pv (i + 1) σ3 (upd H4 d (.lst (xs ++ [y]))) ∧ (upd H4 d (.lst (xs ++ [y]))) d = some (.lst (ys.take (i + 1)))
theorem cpost {n : Nat} {ys : List V} {Pv : Nat → St → Hp → Prop} {d : Addr} {i : Nat} {σ3 : St} {y : V} {H4 : Hp} (hi : i < n) (hn : n ≤ 1000) (hd : H4 d = some (.lst (ys.take i))) (hy : ys[i]? = some y) (hp : Pv (i + 1) σ3 (upd H4 d (.lst (ys.take (i + 1))))) :
    CPost n ys Pv d i σ3 y H4 := by
  have e : ys.take (i + 1) = ys.take i ++ [y] := by rw [List.take_add_one, hy]; rfl
  refine ⟨_, hd, ?_, n - (i + 1), by omega, rfl, hi, by rw [← e]; exact hp, by rw [upd_same, e]⟩
  have : (ys.take i).length ≤ i := by rw [List.length_take]; exact Nat.min_le_left _ _
  exact small1000 (by omega)
theorem comp_by {J : It} {g : TG} {te : TE} {d : Addr} {σ0 : St} {H1 : Hp} {Q : Addr → Hp → Prop} (n : Nat) (ys : List V) (hy : ys.length = n) (Pv : Nat → St → Hp → Prop) (h0 : Pv 0 σ0 (upd H1 d (.lst [])))
    (go : ∀ i σ H, i < n → Pv i σ H → H d = some (.lst (ys.take i)) → J.go i H ∧ ∀ x H2, J.yld i H x H2 → g x σ H2 fun σ3 H3 => te σ3 H3 fun y H4 => CPost n ys Pv d i σ3 y H4)
    (stop : ∀ σ H, Pv n σ H → H d = some (.lst ys) → J.stop n H ∧ Q d H) :
    ∃ W : Nat → Nat → St → Hp → Prop, (∃ m, W 0 m σ0 (upd H1 d (.lst []))) ∧ ∀ i m σ' H', W i m σ' H' →
      (J.stop i H' ∧ Q d H') ∨ (J.go i H' ∧ ∀ x H2, J.yld i H' x H2 → g x σ' H2 fun σ3 H3 => te σ3 H3 fun y H4 => ∃ xs, H4 d = some (.lst xs) ∧ xs.length < sizeLine ∧ ∃ m', m' < m ∧ W (i + 1) m' σ3 (upd H4 d (.lst (xs ++ [y])))) := by
  refine ⟨fun i m σ H => m = n - i ∧ i ≤ n ∧ Pv i σ H ∧ H d = some (.lst (ys.take i)), ⟨n, by simp, Nat.zero_le _, h0, upd_same⟩, ?_⟩
  rintro i m σ H ⟨rfl, hi, p, hd⟩
  by_cases hlt : i < n
  · exact .inr (go i σ H hlt p hd)
  · have e : i = n := by omega
    subst e
    rw [List.take_of_length_le (by omega)] at hd
    exact .inl (stop σ H p hd)
end L2
namespace Sq

theorem sub_len {α : Type} [DecidableEq α] : ∀ (l l' : List α), l.Nodup → (∀ x ∈ l, x ∈ l') → l.length ≤ l'.length
  | [], _, _, _ => Nat.zero_le _
  | a :: l, l', nd, h => by
    have nd' := List.nodup_cons.mp nd
    have ha : a ∈ l' := h a List.mem_cons_self
    have := sub_len l (l'.erase a) nd'.2 fun x hx => by
      have hne : x ≠ a := fun e => nd'.1 (e ▸ hx)
      exact (List.mem_erase_of_ne hne).mpr (h x (List.mem_cons_of_mem _ hx))
    rw [List.length_erase_of_mem ha] at this
    have := List.length_pos_of_mem ha
    simp only [List.length_cons]; omega

theorem full {α : Type} [DecidableEq α] {l l' : List α} (nd : l.Nodup) (h : ∀ x ∈ l, x ∈ l') (hl : l'.length ≤ l.length) : ∀ x ∈ l', x ∈ l := fun x hx => by
  refine Classical.byContradiction fun hn => ?_
  have h1 : (x :: l).Nodup := List.nodup_cons.mpr ⟨hn, nd⟩
  have h2 := sub_len (x :: l) l' h1 fun y hy => by
    rcases List.mem_cons.mp hy with rfl | hy
    · exact hx
    · exact h y hy
  simp only [List.length_cons] at h2; omega

theorem nd_inj {α : Type} {l : List α} (nd : l.Nodup) {i j : Nat} (hi : i < l.length) (hj : j < l.length) (e : l[i] = l[j]) : i = j := by
  have h := List.pairwise_iff_getElem.mp nd
  rcases Nat.lt_trichotomy i j with c | c | c
  · exact absurd e (h i j hi hj c)
  · exact c
  · exact absurd e.symm (h j i hj hi c)

/-- a row of n squares: each stands once -/
structure Row (n : Nat) (r : List Nat) : Prop where
  len : r.length = n
  nd : r.Nodup
  lt : ∀ x ∈ r, x < n

abbrev nx (r : List Nat) (x : Nat) : Nat := r.getD x 0

section
variable {n : Nat} {r : List Nat}
theorem Row.get (h : Row n r) {i : Nat} (hi : i < n) : r[i]? = some (nx r i) := by
  have : i < r.length := by rw [h.len]; exact hi
  simp [nx, List.getD, List.getElem?_eq_getElem this]
theorem Row.mem (h : Row n r) {i : Nat} (hi : i < n) : nx r i ∈ r := List.mem_of_getElem? (h.get hi)
theorem Row.nlt (h : Row n r) {i : Nat} (hi : i < n) : nx r i < n := h.lt _ (h.mem hi)
theorem Row.has (h : Row n r) {x : Nat} (hx : x < n) : x ∈ r := by
  refine full h.nd (l' := List.range n) (fun y hy => List.mem_range.mpr (h.lt y hy)) (by simp [h.len]) x (List.mem_range.mpr hx)
theorem Row.inj (h : Row n r) {i j : Nat} (hi : i < n) (hj : j < n) (e : nx r i = nx r j) : i = j := by
  have h1 : i < r.length := by rw [h.len]; exact hi
  have h2 : j < r.length := by rw [h.len]; exact hj
  have e' : r[i] = r[j] := by simpa [nx, List.getD, List.getElem?_eq_getElem h1, List.getElem?_eq_getElem h2] using e
  exact nd_inj h.nd h1 h2 e'
theorem Row.idx_lt (h : Row n r) {x : Nat} (hx : x < n) : r.idxOf x < n := by
  have := List.idxOf_lt_length_of_mem (h.has hx)
  rwa [h.len] at this
theorem Row.nx_idx (h : Row n r) {x : Nat} (hx : x < n) : nx r (r.idxOf x) = x := by
  have h1 := List.idxOf_lt_length_of_mem (h.has hx)
  simp [nx, List.getD, List.getElem?_eq_getElem h1]
theorem Row.idx_nx (h : Row n r) {i : Nat} (hi : i < n) : r.idxOf (nx r i) = i :=
  h.inj (h.idx_lt (h.nlt hi)) hi (h.nx_idx (h.nlt hi))
theorem Row.of_perm {l : List Nat} (p : l.Perm (List.range n)) : Row n l where
  len := by simpa using p.length_eq
  nd := p.nodup_iff.mpr List.nodup_range
  lt := fun x hx => List.mem_range.mp (p.mem_iff.mp hx)
end

/-- the row turned round -/
def back (r : List Nat) : List Nat := (List.range r.length).map fun x => r.idxOf x
theorem back_len (r : List Nat) : (back r).length = r.length := by simp [back]
theorem back_nx {n : Nat} {r : List Nat} (h : Row n r) {x : Nat} (hx : x < n) : nx (back r) x = r.idxOf x := by
  have : x < r.length := by rw [h.len]; exact hx
  simp [nx, back, List.getD, this]
theorem Row.back {n : Nat} {r : List Nat} (h : Row n r) : Row n (back r) where
  len := by rw [back_len, h.len]
  nd := by
    refine List.pairwise_map.mpr (List.Pairwise.imp_of_mem (fun {a b} ha hb hne e => hne ?_) (List.nodup_range (n := r.length)))
    rw [h.len] at ha hb
    have ha := List.mem_range.mp ha
    have hb := List.mem_range.mp hb
    rw [← h.nx_idx ha, e, h.nx_idx hb]
  lt := fun x hx => by
    obtain ⟨y, hy, rfl⟩ := List.mem_map.mp hx
    rw [h.len] at hy
    exact h.idx_lt (List.mem_range.mp hy)

/-- a set of squares that right and up do not leave -/
def Shut (n : Nat) (r u : List Nat) (T : Nat → Prop) : Prop := ∀ x, x < n → T x → T (nx r x) ∧ T (nx u x)

/-- a sheet -/
structure Sheet (n : Nat) (r u : List Nat) : Prop where
  pos : 1 ≤ n
  most : n ≤ 36
  row : Row n r
  col : Row n u
  conn : ∀ T : Nat → Prop, T 0 → Shut n r u T → ∀ x, x < n → T x

theorem pop_perm {n : Nat} {line left : List Nat} {k : Nat} {y : Nat} (p : (line ++ left).Perm (List.range n)) (e : left[k]? = some y) :
    ((line ++ [y]) ++ left.eraseIdx k).Perm (List.range n) := by
  refine List.Perm.trans ?_ p
  rw [List.append_assoc]
  refine List.Perm.append_left _ ?_
  have hk : k < left.length := (List.getElem?_eq_some_iff.mp e).1
  have hy : left[k] = y := (List.getElem?_eq_some_iff.mp e).2
  have h1 : left = left.take k ++ left[k] :: left.drop (k + 1) := by
    rw [← List.drop_eq_getElem_cons hk, List.take_append_drop]
  rw [List.eraseIdx_eq_take_drop_succ]
  conv => rhs; rw [h1, hy]
  exact (List.perm_middle (a := y) (l₁ := left.take k) (l₂ := left.drop (k + 1))).symm

structure Met (n : Nat) (r u : List Nat) (first : Nat) (M : List Nat) (k : Nat) : Prop where
  nd : M.Nodup
  hd : first ∈ M
  lt : ∀ x ∈ M, x < n
  kle : k ≤ M.length
  shut : ∀ i x, i < k → M[i]? = some x → nx r x ∈ M ∧ nx u x ∈ M
  least : ∀ T : Nat → Prop, T first → Shut n r u T → ∀ x ∈ M, T x
theorem Met.len {n : Nat} {r u : List Nat} {first : Nat} {M : List Nat} {k : Nat} (h : Met n r u first M k) : M.length ≤ n := by
  have := sub_len M (List.range n) h.nd fun x hx => List.mem_range.mpr (h.lt x hx)
  simpa using this
theorem Met.start {n : Nat} {r u : List Nat} {first : Nat} (h : first < n) : Met n r u first [first] 0 where
  nd := by simp
  hd := by simp
  lt := fun x hx => by rw [List.mem_singleton.mp hx]; exact h
  kle := Nat.zero_le _
  shut := fun i x hi => absurd hi (Nat.not_lt_zero _)
  least := fun T h0 _ x hx => by rw [List.mem_singleton.mp hx]; exact h0
/-- put at the end where it is not there yet -/
def put (M : List Nat) (y : Nat) : List Nat := if y ∈ M then M else M ++ [y]
theorem mem_put {M : List Nat} {y x : Nat} : x ∈ put M y ↔ x ∈ M ∨ x = y := by
  unfold put; split
  · rename_i h; exact ⟨.inl, fun q => q.elim id fun e => e ▸ h⟩
  · simp
theorem put_get {M : List Nat} {y x : Nat} {i : Nat} (h : M[i]? = some x) : (put M y)[i]? = some x := by
  unfold put; split
  · exact h
  · rw [List.getElem?_append_left (List.getElem?_eq_some_iff.mp h).1]; exact h
theorem put_len {M : List Nat} {y : Nat} : M.length ≤ (put M y).length := by
  unfold put; split <;> simp
theorem put_nd {M : List Nat} {y : Nat} (h : M.Nodup) : (put M y).Nodup := by
  unfold put; split
  · exact h
  · rename_i hy; exact List.nodup_append.mpr ⟨h, by simp, fun a ha b hb e => hy (by rw [List.mem_singleton.mp hb] at e; exact e ▸ ha)⟩
theorem Met.step {n : Nat} {r u : List Nat} {first : Nat} {M : List Nat} {k x : Nat} (h : Met n r u first M k) (hr : Row n r) (hu : Row n u) (hx : M[k]? = some x) :
    Met n r u first (put (put M (nx r x)) (nx u x)) (k + 1) where
  nd := put_nd (put_nd h.nd)
  hd := mem_put.mpr (.inl (mem_put.mpr (.inl h.hd)))
  lt := fun y hy => by
    have hxn := h.lt x (List.mem_of_getElem? hx)
    rcases mem_put.mp hy with hy | rfl
    · rcases mem_put.mp hy with hy | rfl
      · exact h.lt y hy
      · exact hr.nlt hxn
    · exact hu.nlt hxn
  kle := by
    have := (List.getElem?_eq_some_iff.mp hx).1
    have h1 := put_len (M := M) (y := nx r x)
    have h2 := put_len (M := put M (nx r x)) (y := nx u x)
    omega
  shut := fun i y hi hy => by
    have hk := (List.getElem?_eq_some_iff.mp hx).1
    have hi' : i < M.length := by omega
    have e : M[i]? = some M[i] := List.getElem?_eq_getElem hi'
    have e2 := put_get (y := nx u x) (put_get (y := nx r x) e)
    rw [hy] at e2
    have e3 : y = M[i] := Option.some.inj e2
    rw [← e3] at e
    rcases Nat.lt_or_ge i k with hlt | hge
    · obtain ⟨a, b⟩ := h.shut i y hlt e
      exact ⟨mem_put.mpr (.inl (mem_put.mpr (.inl a))), mem_put.mpr (.inl (mem_put.mpr (.inl b)))⟩
    · have : i = k := by omega
      subst this
      rw [hx] at e
      cases e
      exact ⟨mem_put.mpr (.inl (mem_put.mpr (.inr rfl))), mem_put.mpr (.inr rfl)⟩
  least := fun T h0 hs y hy => by
    have hxM := List.mem_of_getElem? hx
    have hxn := h.lt x hxM
    have hT := h.least T h0 hs x hxM
    rcases mem_put.mp hy with hy | rfl
    · rcases mem_put.mp hy with hy | rfl
      · exact h.least T h0 hs y hy
      · exact (hs x hxn hT).1
    · exact (hs x hxn hT).2
/-- all that is met -/
structure MetAll (n : Nat) (r u : List Nat) (first : Nat) (M : List Nat) : Prop where
  nd : M.Nodup
  hd : first ∈ M
  lt : ∀ x ∈ M, x < n
  shut : ∀ x ∈ M, nx r x ∈ M ∧ nx u x ∈ M
  least : ∀ T : Nat → Prop, T first → Shut n r u T → ∀ x ∈ M, T x
theorem Met.all {n : Nat} {r u : List Nat} {first : Nat} {M : List Nat} {k : Nat} (h : Met n r u first M k) (hk : M.length ≤ k) : MetAll n r u first M where
  nd := h.nd
  hd := h.hd
  lt := h.lt
  shut := fun x hx => by
    obtain ⟨i, hi, e⟩ := List.mem_iff_getElem.mp hx
    exact h.shut i x (by omega) (by rw [List.getElem?_eq_getElem hi, e])
  least := h.least
theorem MetAll.perm {n : Nat} {r u : List Nat} {first : Nat} {M S : List Nat} (h : MetAll n r u first M) (p : S.Perm M) : MetAll n r u first S where
  nd := p.nodup_iff.mpr h.nd
  hd := p.mem_iff.mpr h.hd
  lt := fun x hx => h.lt x (p.mem_iff.mp hx)
  shut := fun x hx => ⟨p.mem_iff.mpr (h.shut x (p.mem_iff.mp hx)).1, p.mem_iff.mpr (h.shut x (p.mem_iff.mp hx)).2⟩
  least := fun T h0 hs x hx => h.least T h0 hs x (p.mem_iff.mp hx)
def among (r S : List Nat) : List Nat := S.map fun x => S.idxOf (nx r x)
theorem among_len (r S : List Nat) : (among r S).length = S.length := by simp [among]
theorem among_nx {r S : List Nat} {i : Nat} {x : Nat} (h : S[i]? = some x) : nx (among r S) i = S.idxOf (nx r x) := by
  simp [nx, among, List.getD, h]
theorem idx_get {S : List Nat} (nd : S.Nodup) {i x : Nat} (h : S[i]? = some x) : S.idxOf x = i := by
  obtain ⟨hi, e⟩ := List.getElem?_eq_some_iff.mp h
  have hm : x ∈ S := List.mem_of_getElem? h
  have h1 := List.idxOf_lt_length_of_mem hm
  have e1 : S[S.idxOf x] = x := List.getElem_idxOf h1
  exact nd_inj nd h1 hi (e1.trans e.symm)
theorem get_idx {S : List Nat} {x : Nat} (h : x ∈ S) : S[S.idxOf x]? = some x := by
  have h1 := List.idxOf_lt_length_of_mem h
  rw [List.getElem?_eq_getElem h1, List.getElem_idxOf h1]
theorem among_row {n : Nat} {r S : List Nat} (hr : Row n r) (nd : S.Nodup) (lt : ∀ x ∈ S, x < n) (cl : ∀ x ∈ S, nx r x ∈ S) : Row S.length (among r S) where
  len := among_len r S
  nd := by
    refine List.pairwise_map.mpr (List.Pairwise.imp_of_mem (fun {a b} ha hb hne e => hne ?_) nd)
    have h1 := get_idx (cl a ha)
    rw [e, get_idx (cl b hb)] at h1
    exact hr.inj (lt a ha) (lt b hb) (Option.some.inj h1).symm
  lt := fun x hx => by
    obtain ⟨y, hy, rfl⟩ := List.mem_map.mp hx
    exact List.idxOf_lt_length_of_mem (cl y hy)
theorem among_sheet {n : Nat} {r u S : List Nat} (hn : n ≤ 36) (hr : Row n r) (hu : Row n u) (h : MetAll n r u 0 S) (so : S.Pairwise (· ≤ ·)) : Sheet S.length (among r S) (among u S) where
  pos := List.length_pos_of_mem h.hd
  most := by
    have := sub_len S (List.range n) h.nd fun x hx => List.mem_range.mpr (h.lt x hx)
    simp only [List.length_range] at this; omega
  row := among_row hr h.nd h.lt fun x hx => (h.shut x hx).1
  col := among_row hu h.nd h.lt fun x hx => (h.shut x hx).2
  conn := fun T h0 hs i hi => by
    have z : S[0]? = some 0 := by
      cases S with
      | nil => exact absurd h.hd (by simp)
      | cons a S =>
        rcases List.mem_cons.mp h.hd with e | hm
        · simp [← e]
        · have := (List.pairwise_cons.mp so).1 0 hm
          have : a = 0 := by omega
          simp [this]
    have key := h.least (fun x => x ∈ S ∧ T (S.idxOf x)) ⟨h.hd, by rw [idx_get h.nd z]; exact h0⟩ fun x _ ⟨hx, t⟩ => by
      have hlt := List.idxOf_lt_length_of_mem hx
      have := hs (S.idxOf x) hlt t
      rw [among_nx (get_idx hx), among_nx (get_idx hx)] at this
      exact ⟨⟨(h.shut x hx).1, this.1⟩, (h.shut x hx).2, this.2⟩
    have e : S[i]? = some S[i] := List.getElem?_eq_getElem hi
    have := (key S[i] (List.getElem_mem hi)).2
    rwa [idx_get h.nd e] at this

end Sq
namespace Sq
variable {n : Nat} {r u : List Nat} {first : Nat} {F : List Nat} {P : List (List Nat)} {k j : Nat}
end Sq
namespace K1
open PySem L2
def top (i : Nat) : Stmt := PySem.Challenge.pw_squaresheet_k71_reached_closed.main.body.getD i (.Pass ⟨0, 0, 0, 0⟩)
abbrev sSize : Stmt := top 7
abbrev sBackRow : Stmt := top 8
abbrev sEach : Stmt := top 9
abbrev sIsWhole : Stmt := top 10
abbrev sIsSq : Stmt := top 11
abbrev sNeed : Stmt := top 12
abbrev sRenumbered : Stmt := top 14
abbrev sNumbering : Stmt := top 15
abbrev sIsRenumbering : Stmt := top 16
abbrev sRenumberedRow : Stmt := top 17
abbrev sForm : Stmt := top 19
abbrev sFormWithNumbering : Stmt := top 20
abbrev sNeedWord : Stmt := top 24
abbrev sSheared : Stmt := top 26
abbrev sTurned : Stmt := top 27
abbrev sMoved : Stmt := top 28
abbrev sMovedOnce : Stmt := top 29
abbrev sReached : Stmt := top 31
abbrev sPut : Stmt := top 32
abbrev sCell : Stmt := top 34
abbrev sLRow : Stmt := top 35
abbrev sLTogether : Stmt := top 36
abbrev sSheet : Stmt := top 37
abbrev sLRenumbered : Stmt := top 38
abbrev sMet : Stmt := top 39
abbrev sLNumbered : Stmt := top 40
abbrev sLBack : Stmt := top 41
abbrev sLMoved : Stmt := top 42
abbrev sLForm : Stmt := top 43
abbrev sLPairs : Stmt := top 44
abbrev sLClosed : Stmt := top 45
abbrev sLaw : Stmt := top 46
end K1
namespace K1
open PySem L2 Sq
/-- the builtins' names are not taken by the text -/
structure Bi (mg : Str → Option Value) : Prop where
  len : mg "len" = none
  range : mg "range" = none
  list : mg "list" = none
  tuple : mg "tuple" = none
  isin : mg "isinstance" = none
  int : mg "int" = none
  bool : mg "bool" = none
  all : mg "all" = none
  set : mg "set" = none
  sorted : mg "sorted" = none
  enum : mg "enumerate" = none
/-- a def of the text -/
structure Fn (K : PySem.W.Frag) (mg : Str → Option Value) (x : Str) (st : Stmt) (ps : List Str) (f : Addr) (fd : FuncData) : Prop where
  F : Fun K x x st f fd
  b : Binds K fd ps []
  m : mg x = some (.ref f)

def RowAt (K : PySem.W.Frag) (H : Hp) (p : Addr) (r : List Nat) : Prop := SqL K H p (nv r) ∨ SqT K H p (nv r)

def spWhole : Sp := fun vs H Q _ => ∃ i : Int, vs = [.int i] ∧ Q (.bl true) H
def spSize : Sp := fun vs H Q _ => ∃ (a : Addr) (r u : List Nat), vs = [.ref a] ∧ ShAt H a r u ∧ Q (.int (r.length : Int)) H
def spIsSq : Sp := fun vs H Q _ => ∃ i n : Int, vs = [.int i, .int n] ∧ Q (.bl (decide (0 ≤ i ∧ i < n))) H

theorem boot_isin : bootBuiltins "isinstance" = some (.builtin "isinstance") := by decide +kernel
theorem boot_int : bootBuiltins "int" = some (.type "int") := by decide +kernel
theorem boot_bool : bootBuiltins "bool" = some (.type "bool") := by decide +kernel
theorem boot_tuple : bootBuiltins "tuple" = some (.type "tuple") := by decide +kernel
theorem boot_list : bootBuiltins "list" = some (.type "list") := by decide +kernel
theorem boot_set : bootBuiltins "set" = some (.type "set") := by decide +kernel
theorem boot_all : bootBuiltins "all" = some (.builtin "all") := by decide +kernel
theorem boot_sorted : bootBuiltins "sorted" = some (.builtin "sorted") := by decide +kernel
theorem nv_erase (xs : List Nat) (k : Nat) : (nv xs).eraseIdx k = nv (xs.eraseIdx k) := by
  unfold nv
  induction xs generalizing k with
  | nil => rfl
  | cons x xs ih => cases k with
    | zero => rfl
    | succ k => simp only [List.map_cons, List.eraseIdx_cons_succ, ih]
theorem same_upd {H H' : Hp} {l : Addr} {o : HO} (e : Same H H') (h : H l = none) : Same H (upd H' l o) := fun b u q => by
  rw [upd_ne (ne_of_none q h)]; exact e b u q
/-- a square is drawn out of those that are left -/
theorem popDraw {H : Hp} {lf : Addr} {left : List Nat} {x : Int} {Q : VK} (h : H lf = some (.lst (nv left))) (h0 : 0 < left.length) (h1 : left.length ≤ 36)
    (q : ∀ (k y : Nat), left[k]? = some y → Q (.int (y : Int)) (upd H lf (.lst (nv (left.eraseIdx k))))) : rPopAt (.ref lf) [.int (x % ((nv left).length : Int))] H Q := by
  have hl := nv_len left
  have a0 : 0 ≤ x % ((nv left).length : Int) := Int.emod_nonneg _ (by omega)
  have a1 : x % ((nv left).length : Int) < ((nv left).length : Int) := Int.emod_lt_of_pos _ (by omega)
  have a2 : (x % ((nv left).length : Int)).toNat < left.length := by omega
  have a3 : left[(x % ((nv left).length : Int)).toNat]? = some left[(x % ((nv left).length : Int)).toNat] := List.getElem?_eq_getElem a2
  refine ⟨lf, _, _, (x % ((nv left).length : Int)).toNat, _, rfl, rfl, h, by omega, by omega, seqIndex_of a0 a1, nv_get a3, ?_⟩
  rw [nv_erase]
  exact q _ _ a3
theorem Same.tseq {K : PySem.W.Frag} {H H' : Hp} {a : Addr} {xs : List V} (e : Same H H') (h : SqT K H a xs) : SqT K H' a xs := by
  rcases h with (h | ⟨o, h⟩) | h
  · exact .inl (.inl (e _ _ h))
  · exact .inl (.inr ⟨o, e _ _ h⟩)
  · exact .inr h
theorem RowAt.same {K : PySem.W.Frag} {H H' : Hp} {p : Addr} {r : List Nat} (e : Same H H') (h : RowAt K H p r) : RowAt K H' p r := h.imp e.seq (Same.tseq e)
theorem rowIx {K : PySem.W.Frag} {H : Hp} {p : Addr} {r : List Nat} {n i : Nat} {Q : VK} (h : RowAt K H p r) (hr : Row n r) (hi : i < n) (q : Q (.int (nx r i : Int)) H) : rIx K (.ref p) (.int (i : Int)) H Q := by
  rcases h with h | h
  · exact .inl ⟨p, _, _, _, rfl, rfl, h, atI_nat (nv_get (hr.get hi)), q⟩
  · exact .inr (.inl ⟨p, _, _, _, rfl, rfl, h, atI_nat (nv_get (hr.get hi)), q⟩)
theorem nv_flat (xs : List Nat) : (nv xs).all flatV = true := by
  rw [List.all_eq_true]
  intro x hx
  obtain ⟨n, _, rfl⟩ := List.mem_map.mp hx
  rfl
theorem inV_nv (x : Nat) (xs : List Nat) : inV (.int (x : Int)) (nv xs) = decide (x ∈ xs) := by
  unfold inV nv
  rw [List.any_map]
  apply Bool.eq_iff_iff.mpr
  rw [List.any_eq_true, decide_eq_true_iff]
  constructor
  · rintro ⟨y, hy, e⟩
    have : (y : Int) = (x : Int) := by simpa [eqV, scal] using e
    have : y = x := by omega
    rw [← this]; exact hy
  · intro h
    exact ⟨x, h, by simp [eqV, scal]⟩
/-- how far the fifth slot is from 100 -/
def mu (j : Nat) (σ : St) : Nat := match σ[j]? with
  | some (some (.int k)) => (100 - k).toNat
  | _ => 0
theorem foldl_put_len : ∀ (l M : List Nat), (l.foldl put M).length ≤ M.length + l.length
  | [], M => Nat.le_refl _
  | x :: l, M => by
    have h1 := foldl_put_len l (put M x)
    have h2 : (put M x).length ≤ M.length + 1 := by unfold put; split <;> simp
    simp only [List.foldl_cons, List.length_cons]; omega
end K1
namespace L2
open PySem PySem.Spec PyProof.Rows
section
variable {X : Cx} {o i value : Expr} {pos pos' : Pos} {to ti tv : TE}
/-- xs[i] = v -/
def sLPut (to ti tv : TE) : TS := fun D σ H => tv σ H fun v H1 => to σ H1 fun x H2 => ti σ H2 fun y H3 => rSetL x y v H3 fun H4 => D.nx σ H4
theorem ps_lput (ho : PE X o to) (hi : PE X i ti) (hv : PE X value tv) (hs : swapsWith value (some (.Subscript o i pos')) pos.line X.env = pure false) : PS X (.Assign [.Subscript o i pos'] value pos) (sLPut to ti tv) := by
  intro pins s σ H D I h
  refine wpAny_Assign_Subscript (thn (hv pins s σ H _ I h) fun r s1 ⟨v, H1, I1, rv, q1⟩ => thn (ho pins s1 σ H1 _ I1 q1) fun u s2 ⟨x, H2, I2, rx, q2⟩ => thn (hi pins s2 σ H2 _ I2 q2) fun iv s3 ⟨y, H3, I3, ry, q3⟩ => ?_) hs
  exact thn (set_list pins s3 σ H3 x y v u iv r _ I3 rx ry rv q3) fun _ s4 ⟨H4, I4, q4⟩ => ⟨σ, H4, I4, q4⟩
theorem PI.or {tg iter : Expr} {w1 w2 : TI} (h1 : PI X tg iter w1) (h2 : PI X tg iter w2) : PI X tg iter (fun σ H R => w1 σ H R ∨ w2 σ H R) := by
  intro pins s σ H R I h
  rcases h with h | h
  · exact h1 pins s σ H R I h
  · exact h2 pins s σ H R I h
end
end L2
namespace K1
open PySem L2 Sq
theorem nv_set (xs : List Nat) (j x : Nat) : (nv xs).set j (.int (x : Int)) = nv (xs.set j x) := by
  unfold nv
  rw [List.map_set]
theorem back_fill {n : Nat} {r bl : List Nat} (rr : Row n r) (hl : bl.length = n) (h : ∀ k, k < n → bl[nx r k]? = some k) : bl = back r := by
  refine List.ext_getElem? fun x => ?_
  by_cases hx : x < n
  · have e := h (r.idxOf x) (rr.idx_lt hx)
    rw [rr.nx_idx hx] at e
    rw [e, rr.back.get hx, back_nx rr hx]
  · rw [List.getElem?_eq_none (by omega), List.getElem?_eq_none (by rw [back_len, rr.len]; omega)]
end K1
namespace K1
open PySem L2 Sq
def spBackRow : Sp := fun vs H Q _ => ∃ (p : Addr) (n : Nat) (r : List Nat), vs = [.ref p] ∧ H p = some (.tup (nv r)) ∧ Row n r ∧ n ≤ 36 ∧ ∀ (H' : Hp) (l : Addr), Same H H' → H' l = some (.tup (nv (back r))) → Q (.ref l) H'
section
variable {P : Program} {w : World} {K : PySem.W.Frag} {mg : Str → Option Value} {base : Heap}
theorem scBackRow : FnScope ["row", "back", "square", "target"] ["row"] (defScope sBackRow) := ⟨rfl, rfl, rfl, by decide +kernel, rfl, by decide +kernel, by decide +kernel⟩
theorem ok_backRow {f : Addr} {fd : FuncData} (T : Bi mg) (F : Fn K mg "back_row" sBackRow ["row"] f fd) : FnOk P w K mg base CX0 1 f fd ["row"] spBackRow := by
  refine F.F.ok scBackRow (fun vs H Q E h => ?_) (fun cdv A outer s H vs Q E hr h => ?_)
  · obtain ⟨p, n, r, rfl, _⟩ := h; rfl
  · obtain ⟨p, n, r, rfl, hp, rr, hn, k⟩ := h
    refine ⟨_, pss_cons (ps_set (i := 1) scBackRow.nd rfl (Or.inl rfl) (pe_callTy call_list_of rfl T.list boot_list (pa_cons (pv 0) pa_nil)))
      (pss_cons (ps_for PassesOwn.never rfl (pi_enumT rfl T.enum (pa_cons (pv 0) pa_nil)) (pg_tupE rfl (pgs_cons (pg_name (i := 2) scBackRow.nd rfl (Or.inl rfl)) (pgs_cons (pg_name (i := 3) scBackRow.nd rfl (Or.inl rfl)) pgs_nil)))
        (pss_one (ps_lput (pv 1) (pv 3) (pv 2) rfl)))
      (pss_one (ps_ret (pe_callTy call_tuple_of rfl T.tuple boot_tuple (pa_cons (pv 1) pa_nil))))), ?_⟩
    refine ⟨_, rfl, p, _, rfl, .inr (SqT.of hp), fun lb hlb => ?_⟩
    have s1 : Same H (upd H lb (.lst (nv r))) := same_upd (Same.refl H) hlb
    refine ⟨_, rfl, p, rfl, ⟨_, SqT.of (s1 _ _ hp)⟩, for_en (xs := nv r) (fun i σ H2 => ∃ o2 o3 bl, σ = [some (.ref p), some (.ref lb), o2, o3] ∧ Same H H2 ∧ H2 lb = some (.lst (nv bl)) ∧ bl.length = n ∧ ∀ k, k < i → bl[nx r k]? = some k)
      ⟨_, _, r, rfl, s1, upd_same, rr.len, fun k hk => absurd hk (Nat.not_lt_zero _)⟩ (fun i σ H2 _ ⟨_, _, _, _, s2, _⟩ => SqT.of (s2 _ _ hp)) ?_ ?_⟩
    · rintro i x σ H2 T' hx hT ⟨o2, o3, bl, rfl, s2, h2, hbl, hall⟩
      obtain ⟨y, hy, rfl⟩ := nv_get' hx
      have hi : i < n := by rw [← rr.len]; exact (List.getElem?_eq_some_iff.mp hy).1
      have ey : y = nx r i := by have := rr.get hi; rw [hy] at this; exact Option.some.inj this
      have hyn : y < n := by rw [ey]; exact rr.nlt hi
      have h2' : (upd H2 T' (tupE T' [.int (i : Int), .int (y : Int)])) lb = some (.lst (nv bl)) := by rw [upd_ne (ne_of_none h2 hT)]; exact h2
      refine ⟨T', _, rfl, upd_same, rfl, _, _, rfl, _, _, rfl, rfl, ?_⟩
      refine ⟨_, rfl, _, rfl, _, rfl, lb, _, _, y, rfl, rfl, h2', ?_, ?_⟩
      · unfold ixN
        rw [if_pos (by omega), if_pos (by rw [nv_len, hbl]; omega)]
        simp
      refine ⟨_, _, bl.set y i, rfl, same_upd (same_upd s2 (s2.free hT)) hlb, by rw [upd_same, nv_set], by rw [List.length_set]; exact hbl, fun k hk => ?_⟩
      rcases Nat.lt_or_ge k i with c | c
      · have hne : y ≠ nx r k := fun z => by
          rw [ey] at z
          have := rr.inj hi (by omega) z
          omega
        rw [List.getElem?_set_ne hne]
        exact hall k c
      · have : k = i := by omega
        subst this
        rw [← ey, List.getElem?_set_self (by rw [hbl]; exact hyn)]
    · rintro σ H2 ⟨o2, o3, bl, rfl, s2, h2, hbl, hall⟩
      rw [nv_len, rr.len] at hall
      have e := back_fill rr hbl hall
      subst e
      refine ⟨_, rfl, lb, _, rfl, .inl ⟨SqL.of h2, fun l hl => k _ l (same_upd s2 (s2.free hl)) upd_same⟩⟩
end
end K1
namespace L2
open PySem PySem.Spec PyProof.Rows
/-- the signs of a text, one by one -/
def Its (z : Str) : It := ⟨fun i _ => i < z.length, fun i H x H' => H' = H ∧ ∃ c, z.cps[i]? = some c ∧ x = .str ⟨#[c]⟩, fun i _ => z.length = i⟩
theorem turn_str {P : Program} {w : World} {K : PySem.W.Frag} {tg : Expr} (it : Addr) (z : Str) (t : Tok) : Turn P w K tg (Its z) [it] it (fun i h => h.IsStrIter it (strIterType z) z t i) := by
  have W : ∀ {A : Around}, A.handled = none → Walks P w A it [it] [it] z.cps.size (SignAt z) (fun i h => h.IsStrIter it (strIterType z) z t i) := by
    intro A hh
    unfold strIterType
    split
    · exact Walks.strAscii hh it z t
    · exact Walks.strWide hh it z t
  have hty : ["enumerate", "zip", "dict_itemiterator", "dict_reverseitemiterator", "odict_iterator", "itertools.zip_longest", "itertools.pairwise"].contains (strIterType z) = false := by
    unfold strIterType; split <;> decide
  exact {
    mem := by simp
    obj := fun i h st b hb => by
      have e : b = it := by simpa using hb
      subst e
      obtain ⟨o, e, c, d⟩ := st
      exact ⟨o, e, fun v z => by rw [d] at z; cases z⟩
    keep := fun i h h' st k => let ⟨o, ho, r⟩ := st; ⟨o, k it (by simp) o ho, r⟩
    item := by
      intro X hP hw hK hc i pins s σ H E I hf st hg
      subst hP hw hK
      obtain ⟨f0, f1, f2, f3, f4, f5⟩ := hf it (by simp)
      refine (W (I.ok.hd hc)).item i s _ _ hg st fun v h' tk hv st' kk => ?_
      obtain ⟨c, u, hc', rfl⟩ := hv
      have I1 : Inv X pins σ H { s with heap := h', toks := tk } := I.turned (fun b o hb e => kk b o (by simpa using hb) e) f0 f1 f3 f4 f5
      obtain ⟨o, e, c1, d⟩ := id st'
      exact ⟨_, rfl, go_of (s := { s with heap := h', toks := tk }) e c1 d hty ⟨.str ⟨#[c]⟩, H, I1, ⟨_, rfl⟩, ⟨rfl, c, hc', rfl⟩, st', fun b hb => (hf b hb).1⟩⟩
    done := by
      intro X hP hw hK hc i pins s σ H E I hf st hg
      subst hP hw hK
      obtain ⟨f0, f1, f2, f3, f4, f5⟩ := hf it (by simp)
      have hg : z.cps.size = i := hg
      subst hg
      exact (W (I.ok.hd hc)).done s _ _ st fun h' tk kk => ⟨rfl, I.turned (fun b o hb e => kk b o (by simpa using hb) e) f0 f1 f3 f4 f5⟩
    self := fun A i s Q E st h => by
      obtain ⟨o, e, c, d⟩ := id st
      unfold strIterType at st
      split at st
      · exact wpAny_pyIter_striter_ascii st h
      · exact wpAny_pyIter_striter_wide st h }
section
variable {X : Cx} {tg : Expr}
def iStr (tl : TE) : TI := fun σ H R => tl σ H fun x H1 => ∃ z, x = .str z ∧ R (Its z) H1
theorem pi_str {l : Expr} {tl : TE} (hl : PE X l tl) : PI X tg l (iStr tl) := by
  intro pins s σ H R I h
  refine thn (hl pins s σ H _ I h) fun v s1 ⟨x, H1, I1, r1, q1⟩ => ?_
  obtain ⟨z, e, q⟩ := q1
  subst e
  obtain ⟨t, rfl⟩ := r1
  refine wpAny_pyIter_strU ?_
  refine ⟨s1.heap.objs.size, [s1.heap.objs.size], _, _, H1, rfl, I1.kept (t' := s1.toks) fun b o e => Heap.get?_push_of_some _ e, turn_str _ z t, ⟨_, Heap.get?_push_size _ rfl, rfl, rfl⟩, fun b hb => ?_, q⟩
  have e : b = s1.heap.objs.size := by simpa using hb
  subst e
  exact I1.fpOk (Nat.le_refl _) (I1.hok.fresh (Nat.le_refl _))
/-- over the signs of a text -/
theorem for_str {z : Str} {g : TG} {tb : TS} {D : Ends} {σ : St} {H : Hp} (Pv : Nat → St → Hp → Prop) (h0 : Pv 0 σ H)
    (hs : ∀ i c σ H, z.cps[i]? = some c → Pv i σ H → g (.str ⟨#[c]⟩) σ H fun σ2 H2 => tb { D with nx := Pv (i + 1), ct := Pv (i + 1), bk := D.nx } σ2 H2) (hd : ∀ σ H, Pv z.length σ H → D.nx σ H) :
    ∃ W : Nat → Nat → St → Hp → Prop, (∃ m, W 0 m σ H) ∧ ∀ i m σ H, W i m σ H →
      ((Its z).stop i H ∧ D.nx σ H) ∨ ((Its z).go i H ∧ ∃ N : St → Hp → Prop, (∀ σ' H', N σ' H' → ∃ m', m' < m ∧ W (i + 1) m' σ' H') ∧ ∀ x H', (Its z).yld i H x H' → g x σ H' fun σ2 H2 => tb { D with nx := N, ct := N, bk := D.nx } σ2 H2) := by
  refine ⟨fun i m σ H => m = z.length - i ∧ i ≤ z.length ∧ Pv i σ H, ⟨z.length, by simp, Nat.zero_le _, h0⟩, ?_⟩
  rintro i m σ H ⟨rfl, hi, hp⟩
  rcases Nat.lt_or_ge i z.length with c | c
  · refine .inr ⟨c, Pv (i + 1), fun σ' H' q => ⟨z.length - (i + 1), by omega, rfl, c, q⟩, ?_⟩
    rintro x H' ⟨rfl, ch, hc, rfl⟩
    exact hs i ch σ _ hc hp
  · have e : i = z.length := Nat.le_antisymm hi c
    subst e
    exact .inl ⟨rfl, hd σ H hp⟩
/-- {e}, e a whole number -/
def tFmtI (te : TE) : TE := fun σ H Q => te σ H fun x H1 => ∃ i : Int, x = .int i ∧ i.natAbs.log2 < 1920 ∧ Q (.str (toString i)) H1
theorem pe_fmtI {e : Expr} {te : TE} {pos : Pos} (he : PE X e te) : PE X (.FormattedValue e (-1) none pos) (tFmtI te) := by
  intro pins s σ H Q I h
  refine wpAny_FormattedValue_plain (thn (he pins s σ H _ I h) fun v s1 ⟨x, H1, I1, r1, i, e, hz, q⟩ => ?_)
  subst e
  obtain ⟨t, rfl⟩ := r1
  exact wpAny_formatField_int hz ⟨.str (toString i), H1, I1.tok _, ⟨_, rfl⟩, q⟩
/-- the parts of an f-string, from the left -/
def tParts : List TE → Str → TE
  | [], acc => fun _ H Q => Q (.str acc) H
  | t :: ts, acc => fun σ H Q => t σ H fun x H1 => ∃ y, x = .str y ∧ (acc ++ y).length ≤ sizeLine ∧ tParts ts (acc ++ y) σ H1 Q
inductive PParts (X : Cx) : List Expr → List TE → Prop
  | nil : PParts X [] []
  | cons {e : Expr} {t : TE} {es : List Expr} {ts : List TE} : PE X e t → PParts X es ts → PParts X (e :: es) (t :: ts)
theorem evalEach_map (env : Env) : ∀ es : List Expr, evalEach es env = es.map fun e => eval e env
  | [] => rfl
  | e :: es => by
    show eval e env :: evalEach es env = _
    rw [evalEach_map env es]; rfl
theorem joins_of {pins : List (Addr × Obj)} : ∀ {es : List Expr} {ts : List TE} {acc : Str} {s : Shared} {σ : St} {H : Hp} {Q : VK}, PParts X es ts → Inv X pins σ H s → acc.length ≤ sizeLine → tParts ts acc σ H Q →
    Joins (model X.prog X.w) X.A X.xe (es.map fun e => eval e X.env) acc (fun out s₁ => out.length ≤ sizeLine ∧ EP X pins σ Q (.str out s₁.toks) { s₁ with toks := s₁.toks + 1 }) s
  | [], _, acc, s, σ, H, Q, .nil, I, hz, h => ⟨hz, .str acc, H, I.tok _, ⟨_, rfl⟩, h⟩
  | e :: es, _, acc, s, σ, H, Q, .cons h1 hr, I, hz, h => by
    refine thn (h1 pins s σ H _ I h) fun v s1 ⟨x, H1, I1, r1, y, ex, hy, q⟩ => ?_
    subst ex
    obtain ⟨t, rfl⟩ := r1
    exact ⟨y, t, rfl, hy, joins_of hr I1 hy q⟩
theorem pe_fstr {e1 e2 : Expr} {es : List Expr} {ts : List TE} {pos : Pos} (h : PParts X (e1 :: e2 :: es) ts) : PE X (.JoinedStr (e1 :: e2 :: es) pos) (tParts ts Str.empty) := by
  intro pins s σ H Q I hw
  refine wpAny_JoinedStr ?_
  rw [evalEach_map]
  exact joins_of h I (by decide) hw
end
end L2
namespace L2
open PySem PySem.Spec PyProof.Rows
/-- e: an exception of the class C with the dict d; B: what stays whatever the flight does; told: it has a traceback, whose flight mark is fl -/
def ExAt (B : Heap) (e : Addr) (C : Value) (d : Option Addr) (h : Heap) : Prop :=
  ∃ oe vs, h.get? e = some oe ∧ oe.cls = C ∧ oe.dict = d ∧ oe.data = .fields vs ∧ vs[2]? = some .none ∧ (vs[1]? = some .none ∨ ∃ T oT ts fl, vs[1]? = some (.ref T) ∧ B.get? T = none ∧ T ≠ e ∧ h.get? T = some oT ∧ oT.data = .fields ts ∧ ts[3]? = some fl)
def ExOn (B : Heap) (e : Addr) (C : Value) (d : Option Addr) (fl : Value) (h : Heap) : Prop :=
  ∃ oe vs T oT ts, h.get? e = some oe ∧ oe.cls = C ∧ oe.dict = d ∧ (oe.data = .fields vs ∧ vs[2]? = some .none) ∧ vs[1]? = some (.ref T) ∧ B.get? T = none ∧ T ≠ e ∧ h.get? T = some oT ∧ oT.data = .fields ts ∧ ts[3]? = some fl
theorem ExOn.at {B h : Heap} {e : Addr} {C fl : Value} {d : Option Addr} (x : ExOn B e C d fl h) : ExAt B e C d h := by
  obtain ⟨oe, vs, T, oT, ts, h1, h2, h3, h4, h5, h6, h7, h8, h9, h10⟩ := x
  exact ⟨oe, vs, h1, h2, h3, h4.1, h4.2, .inr ⟨T, oT, ts, fl, h5, h6, h7, h8, h9, h10⟩⟩
/-- what a station asks and gives -/
structure Air (B : Heap) (l : List Env) (e : Addr) (h : Heap) : Prop where
  stays : B.StaysIn h
  new : B.get? e = none
  frames : h.FunFrames B l
section
variable {M : Model} {A : Around} {E : Value → Shared → Prop} {s : Shared}
theorem dict_mapFields (o : Obj) (f : Array Value → Array Value) : (o.mapFields f).dict = o.dict := by
  obtain ⟨c, d, dt, sl⟩ := o
  cases dt <;> rfl
/-- an entry of the traceback is laid -/
theorem air_entry {B : Heap} {env : Env} {outer : List Env} {L e : Addr} {oe : Obj} {vs : Array Value} {head : Value} {had : Bool} {Q : Unit → Shared → Prop}
    (fr : A.frames = some (env :: outer)) (fl : env.frame = some L) (a : Air B (env :: outer) e s.heap) (he : s.heap.get? e = some oe) (hd : oe.data = .fields vs) (hcx : vs[2]? = some .none)
    (q : ∀ h', Air B (env :: outer) e h' → ExOn B e oe.cls oe.dict (rawInt L) h' → s.heap.UpToSlots h' → Q () { s with heap := h' }) :
    wpAny M A (do let f ← frameOf env; let pl ← entryPlaceOf L had; let b ← EntryCells.newEntry head f .none (rawInt L) .none pl; setField (.ref e) 1 b) Q E s := by
  have hz2 : 2 < vs.size := (Array.getElem?_eq_some_iff.mp hcx).1
  have hz : 1 < vs.size := by omega
  have nfr : e ∉ (env :: outer).filterMap (·.frame) := fun z => by
    obtain ⟨_, o, ho, hn⟩ := a.frames.mem z
    rw [he] at ho
    cases ho
    exact hn vs hd
  refine wpAny_bind (wpAny_frameOf_fun fr a.frames fl fun h1 so => ?_)
  refine wpAny_bind (wpAny_entryPlaceOf fun pl hpl => ?_)
  unfold EntryCells.newEntry newFields
  refine wpAny_bind (wpAny_newObj_type ?_ (hpl.sizeOk5 _ _ _ _ _))
  have he1 : h1.get? e = some oe := by rw [so.2.1 e nfr]; exact he
  have st1 : B.StaysIn h1 := fun b o hb => by
    rw [so.2.1 b fun z => by rw [(a.frames.mem z).1] at hb; cases hb]
    exact a.stays b o hb
  generalize hrec : ({ cls := .type "traceback", dict := none, data := .fields ([head, .ref L, .none, rawInt L, .none] ++ (if pl.isEmpty then List.replicate 6 Value.none else pl)).toArray } : Obj) = rec
  have rdat : ∃ ts : Array Value, rec.data = .fields ts ∧ ts[3]? = some (rawInt L) := by
    refine ⟨([head, .ref L, .none, rawInt L, .none] ++ (if pl.isEmpty then List.replicate 6 Value.none else pl)).toArray, by rw [← hrec], ?_⟩
    simp
  obtain ⟨ts, rd, r3⟩ := rdat
  have he2 := Heap.get?_push_of_some (h := h1) rec he1
  refine wpAny_setField he2 hd hz ?_
  have nT : h1.objs.size ≠ e := Nat.ne_of_gt (Heap.lt_size he1)
  have dat3 := Obj.data_mapFields hd (·.setIfInBounds 1 (Value.ref h1.objs.size))
  have he3 := Heap.get?_update_self (Obj.mapFields (·.setIfInBounds 1 (Value.ref h1.objs.size))) he2 (Obj.isFreed_of_fields dat3)
  have rnf : rec.isFreed = false := Obj.isFreed_of_fields rd
  have hT3 : ((h1.push rec).update e (Obj.mapFields (·.setIfInBounds 1 (Value.ref h1.objs.size)))).get? h1.objs.size = some rec := by
    rw [Heap.get?_update_other _ _ (Ne.symm nT)]; exact Heap.get?_push_size h1 rnf
  have keep : ∀ b o, b ≠ e → h1.get? b = some o → ((h1.push rec).update e (Obj.mapFields (·.setIfInBounds 1 (Value.ref h1.objs.size)))).get? b = some o := fun b o nb hb => by
    rw [Heap.get?_update_other _ _ (Ne.symm nb)]; exact Heap.get?_push_of_some _ hb
  have nrec : ∀ b o, s.heap.get? b = some o → (∀ ws, o.data ≠ .fields ws) → b ≠ e := fun b o hb hn z => by
    rw [z, he] at hb
    cases hb
    exact hn vs hd
  refine q _ ⟨fun b o hb => keep b o (fun z => by rw [z, a.new] at hb; cases hb) (st1 b o hb), a.new, a.frames.of_keeps fun b o hb hn => ?_⟩ ?_ fun b o hb hn => ?_
  · obtain ⟨sl, e1⟩ := so.2.2 b o hb
    exact ⟨_, keep b _ (nrec b o hb hn) e1, rfl⟩
  · refine ⟨_, _, h1.objs.size, rec, ts, he3, Obj.cls_mapFields _ _, dict_mapFields _ _, ⟨dat3, by rw [Array.getElem?_setIfInBounds_ne (by decide)]; exact hcx⟩, by simp [hz], st1.fresh, nT, hT3, rd, r3⟩
  · obtain ⟨sl, e1⟩ := so.2.2 b o hb
    exact ⟨sl, keep b _ (nrec b o hb hn) e1⟩
/-- a traceback's mark is set -/
theorem air_mark {B : Heap} {l : List Env} {e T : Addr} {oe oT : Obj} {vs ts : Array Value} {fl v : Value} (a : Air B l e s.heap) (he : s.heap.get? e = some oe) (hd : oe.data = .fields vs) (hcx : vs[2]? = some .none) (h1 : vs[1]? = some (.ref T)) (nT : B.get? T = none) (nTe : T ≠ e)
    (hT : s.heap.get? T = some oT) (hdT : oT.data = .fields ts) (h3 : ts[3]? = some fl) {Q : Unit → Shared → Prop}
    (q : ∀ h', Air B l e h' → h'.get? e = some oe → ExOn B e oe.cls oe.dict v h' → s.heap.UpToSlots h' → Q () { s with heap := h' }) : wpAny M A (setField (.ref T) 3 v) Q E s := by
  have z3 : 3 < ts.size := (Array.getElem?_eq_some_iff.mp h3).1
  have other : ∀ b, b ≠ T → (s.heap.update T (Obj.mapFields (·.setIfInBounds 3 v))).get? b = s.heap.get? b := fun b nb => Heap.get?_update_other _ _ (Ne.symm nb)
  have nrec : ∀ b o, s.heap.get? b = some o → (∀ ws, o.data ≠ .fields ws) → b ≠ T := fun b o hb hn z => by
    rw [z, hT] at hb
    cases hb
    exact hn ts hdT
  have he' := (other e (Ne.symm nTe)).trans he
  refine wpAny_setField hT hdT z3 (q _ ⟨fun b o hb => ?_, a.new, a.frames.of_keeps fun b o hb hn => ⟨o, (other b (nrec b o hb hn)).trans hb, rfl⟩⟩ he' ?_ fun b o hb hn => ⟨o.slots, (other b (nrec b o hb hn)).trans hb⟩)
  · exact (other b fun z => by rw [z, nT] at hb; cases hb).trans (a.stays b o hb)
  · exact ⟨oe, vs, T, _, _, he', rfl, rfl, ⟨hd, hcx⟩, h1, nT, nTe, Heap.get?_update_self _ hT (Obj.isFreed_of_fields (Obj.data_mapFields hdT _)), Obj.data_mapFields hdT _, by simp [z3]⟩
/-- the frame is noted -/
theorem air_note {B : Heap} {env : Env} {outer : List Env} {L e : Addr} {C : Value} {d : Option Addr} {Q : Unit → Shared → Prop} (fr : A.frames = some (env :: outer)) (fl : env.frame = some L) (a : Air B (env :: outer) e s.heap) (x : ExAt B e C d s.heap)
    (q : ∀ h', Air B (env :: outer) e h' → ExOn B e C d (rawInt L) h' → s.heap.UpToSlots h' → Q () { s with heap := h' }) : wpAny M A (noteFrame (.ref e) env) Q E s := by
  obtain ⟨oe, vs, he, rfl, rfl, hd, hz, hv⟩ := x
  unfold noteFrame
  simp only [fl]
  rcases hv with hv | ⟨T, oT, ts, f0, hv, nT, nTe, hT, hdT, h3⟩
  · refine wpAny_bind (wpAny_field he hd hv ?_)
    rw [if_neg (by decide)]
    exact air_entry fr fl a he hd hz q
  · refine wpAny_bind (wpAny_field he hd hv ?_)
    rw [if_pos (show (Value.ref T != Value.none) = true from by simp)]
    refine wpAny_bind (wpAny_field hT hdT h3 ?_)
    by_cases e0 : (f0 == rawInt L) = true
    · rw [if_pos e0]
      have e1 : f0 = rawInt L := by simpa using e0
      subst e1
      exact wpAny_pure (q s.heap a ⟨oe, vs, T, oT, ts, he, rfl, rfl, ⟨hd, hz⟩, hv, nT, nTe, hT, hdT, h3⟩ (Heap.UpToSlots.refl _))
    · rw [if_neg e0]
      refine wpAny_bind (air_mark a he hd hz hv nT nTe hT hdT h3 fun h1 a1 he1 _ u1 => ?_)
      exact air_entry (s := { s with heap := h1 }) fr fl a1 he1 hd hz fun h2 a2 x2 u2 => q h2 a2 x2 (u1.trans u2)
/-- the flight's mark -/
theorem air_flight {B : Heap} {l : List Env} {e : Addr} {C f0 : Value} {d : Option Addr} {o : Option Addr} {Q : Unit → Shared → Prop} (a : Air B l e s.heap) (x : ExOn B e C d f0 s.heap)
    (q : ∀ h', Air B l e h' → ExOn B e C d (o.elim .none fun f => rawInt f) h' → s.heap.UpToSlots h' → Q () { s with heap := h' }) : wpAny M A (setFlight (.ref e) o) Q E s := by
  obtain ⟨oe, vs, T, oT, ts, he, rfl, rfl, ⟨hd, hcx⟩, hv, nT, nTe, hT, hdT, h3⟩ := x
  unfold setFlight
  refine wpAny_bind (wpAny_field he hd hv ?_)
  rw [if_pos (show (Value.ref T != Value.none) = true from by simp)]
  exact air_mark a he hd hcx hv nT nTe hT hdT h3 fun h' a' _ x' u' => q h' a' x' u'
theorem Air.tail {B : Heap} {env : Env} {outer : List Env} {e : Addr} {h : Heap} (a : Air B (env :: outer) e h) : Air B outer e h := ⟨a.stays, a.new, a.frames.2.2⟩
/-- the frame is left -/
theorem air_leave {B : Heap} {env : Env} {outer : List Env} {L e : Addr} {C : Value} {d : Option Addr} {Q : Unit → Shared → Prop} (fr : A.frames = some (env :: outer)) (fl : env.frame = some L) (a : Air B (env :: outer) e s.heap) (x : ExAt B e C d s.heap)
    (q : ∀ h', Air B outer e h' → ExAt B e C d h' → s.heap.UpToSlots h' → Q () { s with heap := h' }) : wpAny M A (leaving env (.ref e)) Q E s := by
  unfold leaving
  refine wpAny_bind (air_note fr fl a x fun h1 a1 x1 u1 => ?_)
  exact air_flight (s := { s with heap := h1 }) a1 x1 fun h2 a2 x2 u2 => q h2 a2.tail x2.at (u1.trans u2)
end
/-- what was there ahead, and is kept in B; the frames up to their slots -/
structure UnB (fs : List Addr) (H H' : Hp) (h B h' : Heap) : Prop where
  keep : ∀ b o, h.get? b = some o → H b = none → b ∉ fs → B.get? b = some o
  slot : ∀ b o, h.get? b = some o → H b = none → b ∈ fs → ∃ sl, h'.get? b = some { o with slots := sl }
  free : ∀ b o, h.get? b = some o → H b = none → H' b = none
  there : ∀ b o, h.get? b = some o → b ∉ fs → ∃ o', B.get? b = some o'
  tups : ∀ b xs, H b = some (.tup xs) → H' b = some (.tup xs)
  frzs : ∀ b o u, H b = some (.frz o u) → H' b = some (.frz o u)
  tbls : ∀ b ps, H b = some (.tbl ps) → ∃ more, H' b = some (.tbl (ps ++ more))
/-- the exception e flies, over the frames at outer; H, s: ahead of the call; H': what is tracked now -/
structure Fly (P : Program) (w : World) (outer : List Env) (H : Hp) (s : Shared) (C : Value) (d : Option Addr) (H' : Hp) (e : Addr) (s' : Shared) : Prop where
  os : s'.os = s.os
  bare : AllBare s'.gens
  ex : ∃ B, Air B outer e s'.heap ∧ ExAt B e C d s'.heap ∧ HOk P w H' B ∧ UnB (frs outer) H H' s.heap B s'.heap
def CX1 (P : Program) (w : World) : CXT := fun outer H s E ev s' => ∃ e C d H', ev = .ref e ∧ Fly P w outer H s C d H' e s' ∧ E C d H'
end L2
namespace L2
open PySem PySem.Spec PyProof.Rows
abbrev vE : List Value := [.type "ValueError", .type "Exception", .type "BaseException", .type "object"]
/-- a class of the text under ValueError, without an __init__ of its own -/
def ExCls (K : PySem.W.Frag) (C : Addr) : Prop := PySem.W.excIn K C vE "ValueError.__new__" = true
theorem ExCls.obj {K : PySem.W.Frag} {C : Addr} {h : Heap} (q : ExCls K C) (k : K.In h) :
    ∃ bm N nm qn bs hd sn sub ab col dd k0 k1 k2 k3 k5 mN, h.get? C = some (excClassObj nm qn C N bs bm hd sn sub ab col dd k0 k1 k2 k3 k5 "ValueError.__new__") ∧ h.Ns N mN ∧ mN "__init__" = none ∧ OwnTail h vE bm := by
  unfold ExCls PySem.W.excIn at q
  split at q
  · rename_i dd cd sl ho
    split at q
    · rename_i C1 bm k0 k1 k2 k3 n k5 hm hs
      simp only [Bool.and_eq_true, beq_iff_eq, Bool.not_eq_true'] at q
      obtain ⟨⟨⟨⟨⟨e1, e2⟩, hdel⟩, ht⟩, hok⟩, hni⟩ := q
      subst e1 e2
      cases cd
      dsimp only at hm hdel hok hni
      subst hm hdel
      have esl : sl = #[k0, k1, k2, k3, some (.builtin "ValueError.__new__"), k5] := by
        cases sl
        simp only at hs
        rw [hs]
      subst esl
      exact ⟨bm, _, _, _, _, _, _, _, _, _, dd, k0, k1, k2, k3, k5, _, k _ _ ho, .of_isNs (PySem.W.isNs_of_in k hok), PySem.W.nsMap_none_of_in k hok hni, PySem.W.tail_of_in k ht⟩
    · cases q
  · cases q
/-- an exception just made here reaches what is wanted of exceptions -/
def Throws (X : Cx) (E : XK) : Prop := ∀ (pins : List (Addr × Obj)) (σ : St) (H : Hp) (s : Shared) (h' : Heap) (e : Addr) (C : Value) (args : List Value), Inv X pins σ H s → Heap.MadeExcOf s.heap h' e C args → E C none H → X.xe (.ref e) { s with heap := h' }
def tRaise (ta : TA) (C : Addr) (E : XK) : TS := fun _ σ H => ta σ H fun vs H1 => vs.length ≤ sizeLine ∧ E (.ref C) none H1
section
variable {X : Cx} {x : Str} {C : Addr} {e₀ : Expr} {rest : List Expr} {ta : TA} {E : XK} {np cpos pos : Pos}
theorem ps_raise (hc : X.calm = true) (hC : ExCls X.K C) (hg : Gl X x) (hm : X.mg x = some (.ref C)) (ht : Throws X E) (ha : PA X (e₀ :: rest) ta) (hdb : (x == ("__debug__" : Str)) = false := by decide)
    (he : starEach (e₀ :: rest) X.env = (false, eval e₀ X.env) :: starEach rest X.env := by rfl) (hpl : (backTo cpos (starEach rest X.env)).any (·.1) = false := by rfl) :
    PS X (.Raise (some (.Call (.Name x np) (e₀ :: rest) [] cpos)) none pos) (tRaise ta C E) := by
  intro pins s σ H D I h
  obtain ⟨bm, N, nm, qn, bs, hd, sn, sub, ab, col, dd, k0, k1, k2, k3, k5, mN, oC, nN, ni, TL⟩ := hC.obj I.mod.kin
  have FB := PySem.F.excBase_ValueError
  refine wpAny_Raise_call_subT (C := C) (nm := nm) (q := qn) (N := N) (bs := bs) (bm := bm) (hdct := hd) (sn := sn) (sub := sub) (ab := ab) (col := col) (dd := dd) (k0 := k0) (k1 := k1) (k2 := k2) (k3 := k3) (k5 := k5)
    FB (mN := mN) (TL.hasType FB.hasBase) (I.ok.hd hc) (by rw [he]; show (false || (backTo cpos (starEach rest X.env)).any (·.1)) = false; rw [hpl]; rfl) ni (ld_glob I hg hm ⟨rfl, ?_⟩ hdb)
  have hA := ha cpos pins s σ H _ I h
  rw [he] at hA ⊢
  refine Calls.evalArgs_plain (thn hA fun us s2 ⟨vs, H2, I2, r2, hz, q2⟩ => ⟨rfl, by rw [← r2.length]; exact hz, I2.bk _ _ oC, nN.keeps I2.bk, TL.keeps I2.bk, fun h' e hm => ht pins σ H2 s2 h' e _ _ I2 hm q2⟩)
end
/-- the tracked things lie in B -/
theorem hok_hide {P : Program} {w : World} {H : Hp} {h : Heap} {l : List Addr} (x : HOk P w H h) (fr : ∀ b ∈ l, H b = none) : HOk P w H (PySem.W.hideAll h l) := fun b u e => by
  refine (x b u e).stay (fun c v hc q => PySem.W.hideAll_get _ q fun z => ?_) (fun _ q => q) fun _ _ q => q
  rcases hc with hc | hc
  · rw [hc] at z
    rw [fr b z] at e; cases e
  · rw [fr c z] at hc; cases hc
section
variable {P : Program} {w : World} {K : PySem.W.Frag} {mg : Str → Option Value} {base : Heap} {N : List Str} {qual : Str} {scope : Scope} {f : Addr} {cd : Value} {A : Around} {outer : List Env} {s : Shared} {H : Hp} {E E' : XK}
/-- the frames of a def's body -/
theorem frs_cons {env : Env} {l : List Env} {L : Addr} (h : env.frame = some L) : frs (env :: l) = L :: frs l := by unfold frs; rw [List.filterMap_cons, h]
/-- behind the callee: what was ahead of the def is in B -/
theorem UnB.after {X : Cx} {pins : List (Addr × Obj)} {σ : St} {Hc H' : Hp} {sc : Shared} {B h' h2 : Heap} {e : Addr} (I : Inv X pins σ Hc sc) (hex : X.ex = []) (hst : X.stack = X.env :: X.outer) (hfr : X.env.frame = some X.env.locals)
    (a : Air B X.stack e h') (u : UnB (frs X.stack) Hc H' sc.heap B h') (up : h'.UpToSlots h2) : UnB (frs X.outer) X.H₀ H' X.s₀.heap B h2 := by
  have nex : ∀ b : Addr, b ∉ X.ex := fun b z => by rw [hex] at z; cases z
  have efr : frs X.stack = X.env.locals :: frs X.outer := by rw [hst, frs_cons hfr]
  have old : ∀ b o, X.s₀.heap.get? b = some o → b ∉ frs X.outer → b ∉ frs X.stack := fun b o q hb z => by
    rw [efr] at z
    rcases List.mem_cons.mp z with z | z
    · have l1 := Heap.lt_size q
      rw [z] at l1
      exact absurd (Nat.lt_of_lt_of_le l1 I.ok.above) (Nat.lt_irrefl _)
    · exact hb z
  have inn : ∀ b, b ∈ frs X.outer → b ∈ frs X.stack := fun b hb => by rw [efr]; exact List.mem_cons_of_mem _ hb
  exact {
    keep := fun b o q n hb => u.keep b o (I.base.keep b o q n hb (nex b)) (I.base.free b o q n (nex b)) (old b o q hb)
    slot := fun b o q n hb => by
      obtain ⟨sl, e1⟩ := I.base.slot b o q n hb (nex b)
      obtain ⟨sl2, e2⟩ := u.slot b _ e1 (I.base.free b o q n (nex b)) (inn b hb)
      obtain ⟨_, o3, e3, nf⟩ := a.frames.mem (inn b hb)
      have : o3 = { ({ o with slots := sl } : Obj) with slots := sl2 } := by rw [e2] at e3; exact (Option.some.inj e3).symm
      subst this
      obtain ⟨sl3, e4⟩ := up b _ e2 nf
      exact ⟨sl3, e4⟩
    free := fun b o q n => by
      obtain ⟨o1, e1⟩ := I.base.there b o q (nex b)
      exact u.free b o1 e1 (I.base.free b o q n (nex b))
    there := fun b o q hb => by
      obtain ⟨o1, e1⟩ := I.base.there b o q (nex b)
      exact u.there b o1 e1 (old b o q hb)
    tups := fun b xs q => u.tups b xs (I.base.tups b xs q)
    frzs := fun b o v q => u.frzs b o v (I.base.frzs b o v q)
    tbls := fun b ps q => by
      obtain ⟨m1, e1⟩ := I.base.tbls b ps q
      obtain ⟨m2, e2⟩ := u.tbls b _ e1
      exact ⟨m1 ++ m2, by rw [e2, Array.append_assoc]⟩ }
theorem pass1 (hE : ∀ C d H', E' C d H' → E C d H') : Passes (CX1 P w) (cxOf (CX1 P w) P w K mg base N qual scope f cd A outer s H E) E' := by
  rintro pins σ Hc sc ev s' I ⟨e, C, d, H', rfl, fly, hq⟩
  obtain ⟨B, a, x, hok, u⟩ := fly.ex
  refine air_leave (B := B) (L := s.heap.objs.size) I.ok.frames rfl a x fun h2 a2 x2 up => ?_
  exact ⟨e, C, d, H', rfl, ⟨fly.os.trans I.os, fly.bare, B, a2, x2, hok, UnB.after I rfl rfl rfl a u up⟩, hE _ _ _ hq⟩
/-- a raise: the frames hidden, all stays -/
theorem fly_made {X : Cx} {pins : List (Addr × Obj)} {σ : St} {Hc : Hp} {sc : Shared} {h' : Heap} {e : Addr} {C : Value} {args : List Value} (I : Inv X pins σ Hc sc) (m : Heap.MadeExcOf sc.heap h' e C args) :
    ∃ B, Air B X.stack e h' ∧ ExAt B e C none h' ∧ HOk X.prog X.w Hc B ∧ UnB (frs X.stack) Hc Hc sc.heap B h' := by
  have fr := I.stkFree
  refine ⟨PySem.W.hideAll sc.heap (frs X.stack), ⟨fun b o q => m.keeps _ _ (PySem.W.of_hideAll _ q), ?_, ?_⟩, ?_, hok_hide I.hok fr, ?_⟩
  · cases q : (PySem.W.hideAll sc.heap (frs X.stack)).get? e with
    | none => rfl
    | some o =>
      have := PySem.W.of_hideAll _ q
      rw [m.new] at this; cases this
  · refine (PySem.W.funFrames_hide I.stack fun env he a ha => List.mem_filterMap.mpr ⟨env, he, ha⟩).of_keeps fun b o q _ => ⟨o, m.keeps _ _ q, rfl⟩
  · obtain ⟨t, he, _, _⟩ := m.there
    exact ⟨_, _, he, rfl, rfl, rfl, by simp, .inl rfl⟩
  · exact ⟨fun b o q _ hb => PySem.W.hideAll_get _ q hb, fun b o q _ _ => ⟨o.slots, m.keeps _ _ q⟩, fun _ _ _ n => n, fun b o q hb => ⟨o, PySem.W.hideAll_get _ q hb⟩, fun _ _ q => q, fun _ _ _ q => q, fun _ ps q => ⟨#[], by simpa using q⟩⟩
theorem throw1 : Throws (cxOf (CX1 P w) P w K mg base N qual scope f cd A outer s H E) E := by
  intro pins σ Hc sc h' e C args I m hq
  obtain ⟨B, a, x, hok, u⟩ := fly_made I m
  refine air_leave (s := { sc with heap := h' }) (B := B) (L := s.heap.objs.size) I.ok.frames rfl a x fun h2 a2 x2 up => ?_
  exact ⟨e, C, none, Hc, rfl, ⟨I.os, I.bare, B, a2, x2, hok, UnB.after I rfl rfl rfl a u up⟩, hq⟩
end
/-- THE RULE for a def that may raise -/
theorem Fun.ok1 {P : Program} {w : World} {K : PySem.W.Frag} {mg : Str → Option Value} {base : Heap} {x qual : Str} {st : Stmt} {f : Addr} {fd : FuncData} {N ps : List Str} {k : Nat} {sp : Sp} (F : Fun K x qual st f fd) (S : FnScope N ps (defScope st)) (len : ∀ vs H Q E, sp vs H Q E → vs.length = ps.length)
    (hbody : ∀ (cdv : Value) (A : Around) (outer : List Env) (s : Shared) (H : Hp) (vs : List V) (Q : VK) (E : XK), Room k (A.deeper (envOfC qual (defScope st) s.heap.objs.size f cdv)) → sp vs H Q E →
      ∃ t, PSs (cxOf (CX1 P w) P w K mg base N qual (defScope st) f cdv A outer s H E) (defBody st) t ∧ t { nx := fun _ H' => Q .non H', rt := Q } (start N vs) H) : FnOk P w K mg base (CX1 P w) (k + 1) f fd ps sp := by
  obtain ⟨oc, od, kV, doc, pm, an, cdv, ct, osl, rfl, lk, hcd⟩ := F.ex
  exact fn_of lk hcd S len fun A outer s H vs Q E hr hsp => hbody cdv A outer s H vs Q E hr hsp
end L2
namespace L2
open PySem PySem.Spec PyProof.Rows
section
variable {X : Cx} {pins : List (Addr × Obj)} {σ : St} {H : Hp} {s : Shared} {W : Value → Shared → Prop} {e : Addr}
end
end L2
namespace L2
open PySem PySem.Spec PyProof.Rows
section
variable {X : Cx} {pins : List (Addr × Obj)} {σ : St} {H : Hp} {C : Value} {d : Option Addr} {e : Addr} {s : Shared}
end
section
variable {X : Cx} {x n : Str} {DA : Addr} {j : Nat} {b₀ : Stmt} {suite : List Stmt} {ts : Addr → TS} {tr : TH} {np hpos pos : Pos} {rest : List ExceptHandler}
end
section
variable {X : Cx} {CX : CXT} {k : Nat} {f : Addr} {fd : FuncData} {ps : List Str} {sp : Sp} {dvs : List V} {ds : List Value} {E : XK} {x : Str} {p pos : Pos} {e : Expr} {es : List Expr} {t : TA} {te : TE} {σ : St}
end
end L2
namespace L2
open PySem PySem.Spec PyProof.Rows
section
variable {prog : Program} {w : World} {A : Around} {E : Value → Shared → Prop} {s : Shared} {K : PySem.W.Frag} {x D : Addr} {ox : Obj} {od : Option Obj} {name : Str}
end
section
variable {X : Cx}
end
end L2
namespace L2
open PySem PySem.Spec PyProof.Rows
section
variable {X : Cx} {o e : Expr} {es : List Expr} {to : TE} {t : TA} {name : Str} {id : String} {r : V → List V → Hp → VK → Prop} {apos cpos : Pos}
theorem idx_first : ∀ (r : List Nat) (j i : Nat), j < r.idxOf i → r[j]? ≠ some i
  | [], j, i, h => by simp at h
  | a :: r, j, i, h => by
    by_cases e : a = i
    · subst e; simp at h
    · cases j with
      | zero => simp; exact e
      | succ j =>
        have h' : j < r.idxOf i := by
          rw [List.idxOf_cons] at h
          have : (a == i) = false := by simpa using e
          rw [this] at h
          simp at h
          exact h
        simpa using idx_first r j i h'
end
end L2
namespace L2
open PySem PySem.Spec PyProof.Rows
structure ClsF (K : PySem.W.Frag) (D : Addr) : Prop where
  ty : PySem.W.typeIn K (.ref D) = some (.type "type")
  cl : PySem.W.isClsIn K D = true
  be : PySem.W.subIn K (.ref D) (.type "BaseException") = some true
  ga : PySem.W.findIn K (.ref D) "__getattribute__" = some (some (.builtin "BaseException.__getattribute__"))
  gt : PySem.W.findIn K (.ref D) "__getattr__" = some none
  ac : PySem.W.findIn K (.ref D) "__class__" = some (some (.builtin "object.__class__"))
  sp : PySem.W.specialIn K (.builtin "object.__class__") "__get__" = some (some (.builtin "getset_descriptor.__get__"))
  tk : PySem.W.takesIn K (.builtin "object.__class__") = some true
  mo : PySem.W.mroIn K D (.type "object") = some true
end L2
namespace L2
open PySem PySem.Spec PyProof.Rows
section
variable {X : Cx}
def rIndexL : V → List V → Hp → VK → Prop := fun x vs H Q => ∃ (p : Addr) (r : List Nat) (i : Nat), x = .ref p ∧ vs = [.int (i : Int)] ∧ H p = some (.lst (nv r)) ∧ i ∈ r ∧ Q (.int (r.idxOf i : Nat)) H
def eInt (i : Int) : Value → Bool
  | .int m _ => m == i
  | _ => false
theorem mt_indexL : MtR X "list.index" rIndexL := by
  intro pins s σ H x vs v us Q I rx rv h
  obtain ⟨p, r, i, rfl, rfl, hp, hi, q⟩ := h
  cases rx
  obtain ⟨u, rfl, t, rfl⟩ := rv.one
  obtain ⟨z, its, n, r', hl, e⟩ := I.lstM hp
  have hlen : its.length = r.length := by rw [← r'.length, nv_len]
  have item : ∀ (j : Nat) (hj : j < its.length), ∃ (m : Nat) (t : Tok), r[j]? = some m ∧ its[j] = .int (m : Int) t := fun j hj => by
    have hj' : j < r.length := by rw [← hlen]; exact hj
    obtain ⟨u, hu, ru⟩ := r'.get (nv_get (List.getElem?_eq_getElem hj'))
    rw [List.getElem?_eq_getElem hj] at hu
    obtain ⟨t, ht⟩ := ru
    exact ⟨_, t, List.getElem?_eq_getElem hj', (Option.some.inj hu).trans ht⟩
  have hil := List.idxOf_lt_length_of_mem hi
  have hlt : r.idxOf i < its.length := by rw [hlen]; exact hil
  have hz63 : (sizeLine : Nat) ≤ 2 ^ 62 := by decide
  refine call_meets PySem.F.slot_list_index ⟨_, e, rfl⟩ PySem.F.entry_list_index (PySem.F.args_list_index_2 _ _) (SeqAt.list_indexAt p its.toArray n none #[] (.int (i : Int) t) (eInt (i : Int)) (r.idxOf i) (by rw [List.size_toArray]; exact hlt) (by
      have : nv r = nv r := rfl
      have hl2 : (nv r).length ≤ sizeLine := z
      rw [nv_len] at hl2
      omega) ?_ (fun m hm hlt' => ?_)) ⟨e, fun y hy => ?_, ?_⟩
  · obtain ⟨m, t', hm, ey⟩ := item _ hlt
    rw [List.getElem_toArray, ey]
    rw [List.getElem?_eq_getElem hil, List.getElem_idxOf hil] at hm
    show ((m : Int) == (i : Int)) = true
    rw [← Option.some.inj hm]; simp
  · have hm' : m < its.length := by simpa using hm
    obtain ⟨k, t', hk, ey⟩ := item m hm'
    rw [List.getElem_toArray, ey]
    show ((k : Int) == (i : Int)) = false
    have hne : k ≠ i := fun z => idx_first r m i hlt' (by rw [← z]; exact hk)
    simp; omega
  · have hy : y ∈ its := by simpa using hy
    obtain ⟨j, hj, ey⟩ := List.mem_iff_getElem.mp hy
    obtain ⟨m, t', _, e2⟩ := item j hj
    rw [← ey, e2]
    exact SeqAt.EqAt.int_int (m : Int) t' (i : Int) t
  · exact ⟨.int (r.idxOf i : Nat), H, I.tok _, ⟨_, rfl⟩, q⟩
end
end L2
namespace L2
open PySem PySem.Spec PyProof.Rows
section
variable {X : Cx} {elts : List Expr} {k : Nat} {tpos : Pos}
end
end L2
namespace L2
open PySem PySem.Spec PyProof.Rows
section
variable {X : Cx}
end
end L2
namespace L2
open PySem PySem.Spec PyProof.Rows
section
variable {X : Cx} {elt tg iter cnd : Expr} {sc : Scope} {pos : Pos} {wi : TI} {g : TG} {tt : TT} {te : TE} {N : List Str} {names : List (Str × NameKind)} {N' : List Str} {k : Nat} {pull : List Nat}
end
end L2
namespace L2
open PySem PySem.Spec PyProof.Rows
section
variable {X : Cx} {elt tg iter : Expr} {sc : Scope} {pos py spos : Pos} {wi : TI} {g : TG} {te : TE} {N : List Str} {names : List (Str × NameKind)} {N' : List Str} {k j : Nat} {pull : List Nat} {y : Str}
theorem ps_comp (hc : X.calm = true) (hNd : X.N.Nodup) (hj : X.N[j]? = some y) (hy : X.env.scope.names.lookup y = some .local) (B : BScope N names N' k pull sc) (hN : X.N = N) (hnm : X.env.scope.names = names) (hi : PI X tg iter wi)
    (hg : ∀ cl C s₂ H₁ fp pins, PG (blk X sc cl C N' s₂ H₁ fp pins) tg g) (he : ∀ cl C s₂ H₁ fp pins, PE (blk X sc cl C N' s₂ H₁ fp pins) elt te)
    (hs : ∀ x, foldedSetIterable iter X.env x = pure x := by intro _; rfl) (hsw : swapsWith (.ListComp elt [⟨tg, iter, [], 0⟩] sc pos) (some (.Name y py)) spos.line X.env = pure true := by rfl) : PS X (.Assign [.Name y py] (.ListComp elt [⟨tg, iter, [], 0⟩] sc pos) spos) (tAsg (tComp wi k pull g te) (gName j)) := by
  intro pins s σ H D I h
  rw [exec_Assign_Name_used _ _ _ _ hsw]
  refine wpAny_bind (wpAny_standAt (wpAny_bind ?_))
  show wpAny _ X.A (do let _ ← comprehension (.ListComp elt [⟨tg, iter, [], 0⟩] sc pos) sc X.env _ (newList []) false (eval iter X.env) (some (assign (.Name y py) X.env))) _ _ s
  have hcells : ∀ y ∈ sc.names, y.2 = .free → ∃ c, X.env.cells.lookup y.1 = some c := fun y hy hf => I.ok.has y.1 (.inl (by
    show X.env.scope.names.lookup y.1 = _
    rw [hnm]; exact B.fre y hy hf))
  obtain ⟨cl, ecl, c1, _, c3⟩ := closureFor_is (env := X.env) sc.names [] hcells (fun x c e => nomatch e)
  rw [← closureFor_eq] at ecl
  refine wpAny_bind (wpAny_mono (wpAny_comprehension_free (Q := fun _ s' => SP X pins D .next s') (use := some (assign (.Name y py) X.env)) rfl hs ecl B.kind B.loc (thn (hi pins s σ H _ I h) fun xv s1 h1 => thn h1 fun itv s2 h2 => ?_)) (fun _ s' hq => wpAny_pure (wpAny_pure hq)) fun _ _ e => e)
  obtain ⟨it, fp, tn, J, H1, e, I2, T, st2, f2, hW⟩ := h2
  subst e
  have ho : ∀ b ∈ fp, ∃ o, s2.heap.get? b = some o := fun b hb => let ⟨o, e, _⟩ := T.obj _ _ st2 b hb; ⟨o, e⟩
  refine wpAny_newObj_type (wpAny_newFunctionEnv B.nocell (by intro y hy; simp at hy) (fun h₁ hns₁ hsb₁ => ?_) B.kind)
  dsimp only at hns₁ hsb₁ ⊢
  rw [Heap.size_push] at hns₁ hsb₁ ⊢
  have old : ∀ b o, s2.heap.get? b = some o → h₁.get? b = some o := fun b o e => by
    have hlt := Heap.lt_size e
    exact (hsb₁.2 b (Nat.ne_of_lt (Nat.lt_succ_of_lt hlt))).trans (Heap.get?_push_of_some _ (Heap.get?_push_of_some _ e))
  have hd : h₁.get? s2.heap.objs.size = some { cls := .type "list", data := .seq ([] : List Value).toArray } :=
    (hsb₁.2 _ (Nat.ne_of_lt (Nat.lt_succ_self _))).trans (Heap.get?_push_of_some _ (Heap.get?_push_size _ rfl))
  have I4 := blk_start (tk := s2.toks + ([] : List (Str × Value)).length) B hN hnm I2 f2 ho c1 c3 hns₁ old hd
  have st4 : tn 0 h₁ := T.keep _ _ _ st2 fun b _ o e => old b o e
  obtain ⟨W, ⟨m0, w0⟩, turn⟩ := hW s2.heap.objs.size (I2.hok.fresh (Nat.le_refl _))
  have fr4 : ∀ b ∈ fp, (upd H1 s2.heap.objs.size (.lst [])) b = none := fun b hb => by
    obtain ⟨o, e⟩ := ho b hb
    rw [upd_ne (Nat.ne_of_lt (Heap.lt_size e))]
    exact (f2 b hb).1
  -- what stays true of the iterator's objects
  have stat : ∀ {H' : Hp}, (∀ b ∈ fp, H' b = none) → ∀ b ∈ fp, FpOk (blk X sc cl (s2.heap.objs.size + 1) N' s2 H1 fp pins) [] H' b := fun hn b hb => by
    refine ⟨hn b hb, (I4.ok.exf b hb).1, I4.ok.exfs b hb, .inl hb, (I4.ok.exf b hb).2, fun p hp => ?_⟩
    have hp : p ∈ X.pn ++ pins := by simpa [blk] using hp
    exact (f2 b hb).2.2.2.2.2 p hp
  have loop : ∀ s₃ : Shared, s₃ = { s2 with heap := h₁, toks := s2.toks + ([] : List (Str × Value)).length } →
      codeAny (model X.prog X.w) X.A (.compLoop (.ListComp elt [⟨tg, iter, [], 0⟩] sc pos) 0 (.ref it) (.ref s2.heap.objs.size) (compEnvC sc cl (s2.heap.objs.size + 1) X.env))
        (compPost (model X.prog X.w) X.A X.xe (some (assign (.Name y py) X.env)) (fun _ s' => SP X pins D .next s') (.ref s2.heap.objs.size) (s2.heap.objs.size + 1)) s₃ := by
    rintro s₃ rfl
    refine comp_turn (fun n s' => ∃ i σ' H', Inv (blk X sc cl (s2.heap.objs.size + 1) N' s2 H1 fp pins) [] σ' H' s' ∧ tn i s'.heap ∧ (∀ b ∈ fp, H' b = none) ∧ W i n σ' H') ?_ m0 ⟨0, _, _, I4, st4, fr4, w0⟩
    rintro n s3 ⟨i, σ3, H3, I3, st3, fr3, w3⟩
    rcases turn i n σ3 H3 w3 with ⟨stop, q⟩ | ⟨go, step⟩
    · refine thn (T.done (blk X sc cl (s2.heap.objs.size + 1) N' s2 H1 fp pins) rfl rfl rfl hc i [] s3 σ3 H3 _ I3 (stat fr3) st3 stop) fun r s4 ⟨hr, I5⟩ => ?_
      subst hr
      obtain ⟨m, hn, _⟩ := id I5.loc
      have U : Un (frs X.stack) fp H1 H3 s2.heap s4.heap := I5.base
      have J5 : Inv X pins σ H3 s4 := I2.call' (s' := s4) I5.os U I5.hok I5.bare fun b hb => ⟨(f2 b hb).2.2.2.1, (f2 b hb).2.1, (f2 b hb).2.2.2.2.1, (f2 b hb).2.2.2.2.2⟩
      obtain ⟨g0, g1, _, g3, g4, g5⟩ : FpOk X pins H3 (s2.heap.objs.size + 1) := I2.fpOk (Nat.le_succ _) I5.free
      refine wpAny_assign_Name (store_ok2 J5 hNd hj (.inl hy) (v := .ref s2.heap.objs.size) rfl (fun s5 K5 ⟨a, sb, ha⟩ => ?_) (.inr hy))
      have hne : s2.heap.objs.size + 1 ≠ a := fun z => by
        rcases ha with ha | ha
        · exact g1 (z.trans ha)
        · exact g4 _ _ ha z.symm
      refine ⟨m, hn.sameBut sb hne, fun h' hs' => ⟨_, H3, ?_, q⟩⟩
      exact K5.turned (t' := s5.toks) (fun b o hb e => (hs'.2 b hb).trans e) g0 g1 g3 g4 g5
    · refine thn (T.item (blk X sc cl (s2.heap.objs.size + 1) N' s2 H1 fp pins) rfl rfl rfl hc i [] s3 σ3 H3 _ I3 (stat fr3) st3 go) fun r s4 ⟨u, hr, h4⟩ => ?_
      subst hr
      refine thn h4 fun _ s5 ⟨x, H5, I5, r5, y5, st5, fr5⟩ => ?_
      have I5' := I5.pinned (stat fr5) (T.obj _ _ st5)
      refine wpAny_mono (hg _ _ _ _ _ _ _ s5 σ3 H5 x u _ I5' r5 (step x H5 y5)) (fun _ s6 ⟨σ6, H6, I6, q6⟩ => ?_) fun _ _ z => z.elim
      refine wpAny_mono (he _ _ _ _ _ _ _ s6 σ6 H6 _ I6 q6) (fun y s7 ⟨z, H7, I7, r7, xs, hx7, hz7, m', hm, w7⟩ => ?_) fun _ _ z => z.elim
      refine wpAny_mono (mt_append (X := blk X sc cl (s2.heap.objs.size + 1) N' s2 H1 fp pins) _ s7 σ6 H7 (.ref s2.heap.objs.size) [z] (.ref s2.heap.objs.size) [y] (fun _ H8 => H8 = upd H7 s2.heap.objs.size (.lst (xs ++ [z]))) I7 rfl (.cons r7 .nil) ⟨_, xs, z, rfl, rfl, hx7, hz7, rfl⟩) (fun _ s8 ⟨_, H8, I8, _, e8⟩ => ?_) fun _ _ z => z.elim
      subst e8
      refine ⟨m', hm, i + 1, σ6, _, I8.unpinned, T.keep _ _ _ st5 fun b hb o e => (I8.pin (b, o) (List.mem_append_right _ (List.mem_append_right _ (mem_pinsAt hb e)))).1, fun b hb => ?_, w7⟩
      obtain ⟨o, e, _⟩ := T.obj _ _ st5 b hb
      exact (I8.pin (b, o) (List.mem_append_right _ (List.mem_append_right _ (mem_pinsAt hb e)))).2.1
  exact codeAny_compStart_list (loop _ rfl) (T.self _ 0 _ _ _ st4 (loop _ rfl))
end
end L2
namespace K1
open PySem L2 Sq
/-- [g(k) for k in range(m)], no heap needed -/
theorem compRange {Hc : Hp} {m : Nat} {ta : TA} {te : TE} {pull : List Nat} {Q : VK} {σ : St} {rest : St} (g : Nat → Nat) (hj : ∀ R : List V → Hp → Prop, R [.int (m : Int)] Hc → ta σ Hc R) (hb : bst 1 pull σ = none :: rest)
    (hte : ∀ (i : Nat) (H : Hp) (R : VK), i < m → Same Hc H → R (.int (g i : Int)) H → te (some (.int (i : Int)) :: rest) H R) (hm : m ≤ 1000)
    (k : ∀ (H' : Hp) (d : Addr), Same Hc H' → Hc d = none → H' d = some (.lst (nv ((List.range m).map g))) → Q (.ref d) H') :
    tComp (iRng1 ta) 1 pull (gName 0) te σ Hc Q := by
  refine hj _ ⟨(m : Int), rfl, by omega, by omega, fun d hd => ?_⟩
  rw [Int.toNat_natCast, hb]
  refine comp_by (J := Itr 0 m) (Q := fun d H' => Q (.ref d) H') m (nv ((List.range m).map g)) (by rw [nv_len]; simp) (fun i σ H9 => (∃ o, σ = o :: rest) ∧ Same Hc H9) ⟨⟨_, rfl⟩, same_upd (Same.refl _) hd⟩ ?_ ?_
  · rintro i σ H9 hi ⟨⟨o, rfl⟩, s9⟩ hd9
    refine ⟨hi, fun x H4 ⟨e1, e2⟩ => ?_⟩
    subst e1 e2
    rw [show (0 : Int) + (i : Int) = (i : Int) from by omega]
    refine hte i _ _ hi s9 ?_
    refine cpost hi (by omega) hd9 (nv_get (by simp [hi])) ⟨⟨_, rfl⟩, same_upd s9 hd⟩
  · rintro σ H9 ⟨⟨o, rfl⟩, s9⟩ hd9
    exact ⟨Nat.le_refl _, k H9 d s9 hd hd9⟩
/-- [g(x) for x in row], row a tuple of numbers in the slot j -/
theorem compTupN {K : PySem.W.Frag} {Hc : Hp} {p : Addr} {r : List Nat} {j : Nat} {te : TE} {pull : List Nat} {Q : VK} {σ : St} {rest : St} (g : Nat → Nat) (hj : σ[j]? = some (some (.ref p))) (hp : SqT K Hc p (nv r)) (hb : bst 1 pull σ = none :: rest)
    (hte : ∀ (x : Nat) (H : Hp) (R : VK), x ∈ r → Same Hc H → R (.int (g x : Int)) H → te (some (.int (x : Int)) :: rest) H R) (hn : r.length ≤ 1000)
    (k : ∀ (H' : Hp) (d : Addr), Same Hc H' → Hc d = none → H' d = some (.lst (nv (r.map g))) → Q (.ref d) H') :
    tComp (iTup K (tVar j)) 1 pull (gName 0) te σ Hc Q := by
  refine ⟨_, hj, p, rfl, ⟨_, hp⟩, fun d hd => ?_⟩
  rw [hb]
  refine comp_by (Q := fun d H' => Q (.ref d) H') r.length (nv (r.map g)) (by rw [nv_len]; simp) (fun i σ H3 => (∃ o, σ = o :: rest) ∧ Same Hc H3) ⟨⟨_, rfl⟩, same_upd (Same.refl _) hd⟩ ?_ ?_
  · rintro i σ H3 hi ⟨⟨o, rfl⟩, s3⟩ hd3
    have hp3 := Same.tseq s3 hp
    have hg := nv_get (List.getElem?_eq_getElem hi)
    refine ⟨⟨_, _, hp3, hg⟩, fun y H4 ⟨e, hy⟩ => ?_⟩
    subst e
    have hy := hy _ hp3
    rw [hg] at hy
    cases hy
    refine hte _ _ _ (List.getElem_mem hi) s3 ?_
    exact cpost hi hn hd3 (nv_get (by simp [hi])) ⟨⟨_, rfl⟩, same_upd s3 hd⟩
  · rintro σ H3 ⟨⟨o, rfl⟩, s3⟩ hd3
    exact ⟨⟨_, Same.tseq s3 hp, by rw [nv_len]; exact Nat.le_refl _⟩, k H3 d s3 hd hd3⟩
end K1
namespace Sq
theorem nx_map {l : List Nat} {g : Nat → Nat} {i x : Nat} (h : l[i]? = some x) : nx (l.map g) i = g x := by
  simp [nx, List.getD, h]
theorem ext_row {n : Nat} {l l' : List Nat} (hl : l.length = n) (hl' : l'.length = n) (h : ∀ i, i < n → nx l i = nx l' i) : l = l' := by
  refine List.ext_getElem (by omega) fun i h1 h2 => ?_
  have := h i (by omega)
  simpa [nx, List.getD, List.getElem?_eq_getElem h1, List.getElem?_eq_getElem h2] using this
/-- the row r renumbered by f -/
def ren (r f : List Nat) : List Nat := (back f).map fun o => nx f (nx r o)
theorem ren_len (r f : List Nat) : (ren r f).length = f.length := by simp [ren, back_len]
section
variable {n : Nat} {r f : List Nat}
theorem nx_back (hf : Row n f) {i : Nat} (hi : i < n) : nx (back f) (nx f i) = i := by rw [back_nx hf (hf.nlt hi)]; exact hf.idx_nx hi
theorem nx_back' (hf : Row n f) {i : Nat} (hi : i < n) : nx f (nx (back f) i) = i := by rw [back_nx hf hi]; exact hf.nx_idx hi
theorem ren_nx (hf : Row n f) {i : Nat} (hi : i < n) : nx (ren r f) i = nx f (nx r (nx (back f) i)) := nx_map (hf.back.get hi)
theorem ren_at (hf : Row n f) {k : Nat} (hk : k < n) : nx (ren r f) (nx f k) = nx f (nx r k) := by
  rw [ren_nx hf (hf.nlt hk), nx_back hf hk]
theorem row_of {l : List Nat} (hl : l.length = n) (lt : ∀ i, i < n → nx l i < n) (inj : ∀ i j, i < n → j < n → nx l i = nx l j → i = j) : Row n l where
  len := hl
  nd := by
    refine List.pairwise_iff_getElem.mpr fun i j hi hj hij e => ?_
    have := inj i j (by omega) (by omega) (by simp [nx, List.getD, List.getElem?_eq_getElem hi, List.getElem?_eq_getElem hj, e])
    omega
  lt := fun x hx => by
    obtain ⟨i, hi, e⟩ := List.mem_iff_getElem.mp hx
    have := lt i (by omega)
    rwa [show nx l i = x from by simp [nx, List.getD, List.getElem?_eq_getElem hi, e]] at this
theorem ren_row (hr : Row n r) (hf : Row n f) : Row n (ren r f) := by
  refine row_of (by rw [ren_len, hf.len]) (fun i hi => ?_) (fun i j hi hj e => ?_)
  · rw [ren_nx hf hi]; exact hf.nlt (hr.nlt (hf.back.nlt hi))
  · rw [ren_nx hf hi, ren_nx hf hj] at e
    exact hf.back.inj hi hj (hr.inj (hf.back.nlt hi) (hf.back.nlt hj) (hf.inj (hr.nlt (hf.back.nlt hi)) (hr.nlt (hf.back.nlt hj)) e))
end
end Sq
namespace Sq
section
variable {n : Nat} {w : List Nat}
end
end Sq
namespace Sq
section
variable {n : Nat} {w : List Nat}
end
end Sq
namespace Sq
theorem nx_mk {n i : Nat} {g : Nat → Nat} (hi : i < n) : nx ((List.range n).map g) i = g i := by simp [nx, List.getD, hi]
end Sq
namespace Sq
section
variable {n : Nat} {w : List Nat}
def cmp (n : Nat) (w v : List Nat) : List Nat := (List.range n).map fun x => nx w (nx v x)
theorem cmp_nx {v : List Nat} {k : Nat} (hk : k < n) : nx (cmp n w v) k = nx w (nx v k) := nx_mk hk
theorem cmp_row {v : List Nat} (h : Row n w) (hv : Row n v) : Row n (cmp n w v) := by
  refine row_of (by simp [cmp]) (fun i hi => ?_) (fun i j hi hj e => ?_)
  · rw [cmp_nx hi]; exact h.nlt (hv.nlt hi)
  · rw [cmp_nx hi, cmp_nx hj] at e
    exact hv.inj hi hj (h.inj (hv.nlt hi) (hv.nlt hj) e)
end
end Sq
namespace Sq
section
variable {n : Nat} {w : List Nat}
end
section
variable {n : Nat} {r u : List Nat}
end
end Sq
namespace K1
open PySem L2 Sq
def spShr : Sp := fun vs H Q _ => ∃ (a : Addr) (n : Nat) (r u : List Nat), vs = [.ref a] ∧ ShAt H a r u ∧ Row n r ∧ Row n u ∧ n ≤ 36 ∧ ∀ (H' : Hp) (b : Addr), Same H H' → ShAt H' b r (cmp n u (back r)) → Q (.ref b) H'
def spTrn : Sp := fun vs H Q _ => ∃ (a : Addr) (n : Nat) (r u : List Nat), vs = [.ref a] ∧ ShAt H a r u ∧ Row n r ∧ Row n u ∧ n ≤ 36 ∧ ∀ (H' : Hp) (b : Addr), Same H H' → ShAt H' b (back u) r → Q (.ref b) H'
theorem map_cmp {n : Nat} {u v : List Nat} (hv : Row n v) : v.map (fun x => nx u x) = cmp n u v := by
  refine List.ext_getElem? fun i => ?_
  by_cases hi : i < n
  · have h1 := hv.get hi
    rw [List.getElem?_map, h1]
    show some (nx u (nx v i)) = ((List.range n).map fun i => nx u (nx v i))[i]?
    rw [List.getElem?_map, List.getElem?_range hi]; rfl
  · have : ¬ i < (cmp n u v).length := by show ¬ i < ((List.range n).map _).length; rw [List.length_map, List.length_range]; exact hi
    rw [List.getElem?_eq_none (by rw [List.length_map, hv.len]; omega), List.getElem?_eq_none (by omega)]
section
variable {P : Program} {w : World} {K : PySem.W.Frag} {mg : Str → Option Value} {base : Heap}
abbrev n_shr : List Str := ["sheet", "left"]
theorem sc_shr : FnScope n_shr ["sheet"] (defScope sSheared) := ⟨rfl, rfl, rfl, by decide +kernel, rfl, by decide +kernel, by decide +kernel⟩
theorem nd_shr : (["square", "sheet"] : List Str).Nodup := by decide +kernel
theorem ok_shr {f fb : Addr} {fd db : FuncData} (T : Bi mg) (F : Fn K mg "sheared" sSheared ["sheet"] f fd) (FB : Fn K mg "back_row" sBackRow ["row"] fb db) (GB : FnOk P w K mg base CX0 1 fb db ["row"] spBackRow) : FnOk P w K mg base CX0 2 f fd ["sheet"] spShr := by
  refine F.F.ok sc_shr (fun vs H Q E h => ?_) (fun cdv A outer s H vs Q E hr h => ?_)
  · obtain ⟨a, n, r, u, rfl, _⟩ := h; rfl
  · obtain ⟨a, n, r, u, rfl, ⟨p, q, h1, h2, h3⟩, rr, ru, hn, k⟩ := h
    have hr1 : Room 1 _ := hr.mono (by decide)
    refine ⟨_, (pss_cons (ps_set (i := 1) sc_shr.nd rfl (Or.inl rfl) (pe_call GB hr rfl FB.m FB.F.kp FB.b .nil pass0 (pa_cons (pe_ix ix_tup (pv 0) pe_int (fun _ _ => rfl)) pa_nil)))
      (pss_one (ps_ret (pe_tup (pa_cons (pe_ix ix_tup (pv 0) pe_int (fun _ _ => rfl)) (pa_cons (pe_callTy call_tuple_of rfl T.tuple boot_tuple (pa_cons (pe_comp (N := n_shr) (names := (defScope sSheared).names) (N' := ["square", "sheet"]) (k := 1) (pull := [0]) (te := (tOp (rIxT K) (tOp (rIxT K) (tVar 1) (tC (.int 1))) (tVar 0))) rfl ⟨by rfl, by decide +kernel, by decide +kernel, by rfl, by decide +kernel, by decide +kernel⟩ rfl rfl (pi_tup (pv 1)) (fun _ _ _ _ _ _ => pg_name (i := 0) nd_shr rfl (Or.inl rfl)) (fun _ _ _ _ _ _ => (pe_ix ix_tup (pe_ix ix_tup (pv 1) pe_int (fun _ _ => rfl)) (pv 0) (fun _ _ => rfl)))) pa_nil)) pa_nil)))))), ?_⟩
    refine ⟨_, rfl, a, _, 0, _, rfl, rfl, SqT.of h1, atI_nat (j := 0) rfl, p, n, r, rfl, h2, rr, hn, fun H1 l s1 hl => ?_⟩
    refine ⟨_, rfl, a, _, 0, _, rfl, rfl, SqT.of (s1 _ _ h1), atI_nat (j := 0) rfl, ?_⟩
    dsimp only [tCons, tCB]
    refine compTupN (r := back r) (rest := [some (.ref a)]) (fun x => nx u x) rfl (SqT.of hl) rfl (fun x H3 R hx s3 hR => ?_) (by rw [rr.back.len]; omega) fun H3 d s3 _ hd3 => ?_
    · have s13 := s1.trans s3
      exact ⟨_, rfl, a, _, 1, _, rfl, rfl, SqT.of (s13 _ _ h1), atI_nat (j := 1) rfl, _, rfl, q, _, _, _, rfl, rfl, SqT.of (s13 _ _ h3), atI_nat (nv_get (ru.get (rr.back.lt x hx))), hR⟩
    rw [map_cmp rr.back] at hd3
    refine ⟨d, _, rfl, .inl ⟨SqL.of hd3, fun t ht => ?_⟩⟩
    have s4 := same_upd (o := .tup (nv (cmp n u (back r)))) (s1.trans s3) ((s1.trans s3).free ht)
    refine ⟨by show 2 ≤ sizeLine; decide, fun b hb => k _ b (same_upd s4 (s4.free hb)) ⟨p, t, upd_same, ?_, ?_⟩⟩
    · have := s4 _ _ h2
      rw [upd_ne (ne_of_none this hb)]; exact this
    · have : (upd H3 t (.tup (nv (cmp n u (back r))))) t = some (.tup (nv (cmp n u (back r)))) := upd_same
      rw [upd_ne (ne_of_none this hb)]; exact this
abbrev n_trn : List Str := ["sheet"]
theorem sc_trn : FnScope n_trn ["sheet"] (defScope sTurned) := ⟨rfl, rfl, rfl, by decide +kernel, rfl, by decide +kernel, by decide +kernel⟩
theorem ok_trn {f fb : Addr} {fd db : FuncData} (F : Fn K mg "turned" sTurned ["sheet"] f fd) (FB : Fn K mg "back_row" sBackRow ["row"] fb db) (GB : FnOk P w K mg base CX0 1 fb db ["row"] spBackRow) : FnOk P w K mg base CX0 2 f fd ["sheet"] spTrn := by
  refine F.F.ok sc_trn (fun vs H Q E h => ?_) (fun cdv A outer s H vs Q E hr h => ?_)
  · obtain ⟨a, n, r, u, rfl, _⟩ := h; rfl
  · obtain ⟨a, n, r, u, rfl, ⟨p, q, h1, h2, h3⟩, rr, ru, hn, k⟩ := h
    have hr1 : Room 1 _ := hr.mono (by decide)
    refine ⟨_, (pss_one (ps_ret (pe_tup (pa_cons (pe_call GB hr rfl FB.m FB.F.kp FB.b .nil pass0 (pa_cons (pe_ix ix_tup (pv 0) pe_int (fun _ _ => rfl)) pa_nil)) (pa_cons (pe_ix ix_tup (pv 0) pe_int (fun _ _ => rfl)) pa_nil))))), ?_⟩
    refine ⟨_, rfl, a, _, 1, _, rfl, rfl, SqT.of h1, atI_nat (j := 1) rfl, q, n, u, rfl, h3, ru, hn, fun H1 l s1 hl => ?_⟩
    refine ⟨_, rfl, a, _, 0, _, rfl, rfl, SqT.of (s1 _ _ h1), atI_nat (j := 0) rfl, by show 2 ≤ sizeLine; decide, fun b hb => ?_⟩
    refine k _ b (same_upd s1 (s1.free hb)) ⟨l, p, upd_same, ?_, ?_⟩
    · rw [upd_ne (ne_of_none hl hb)]; exact hl
    · have := s1 _ _ h2
      rw [upd_ne (ne_of_none this hb)]; exact this
end
end K1
namespace L2
open PySem PySem.Spec PyProof.Rows
section
variable {X : Cx}
end
section
variable {prog : Program} {w : World} {A : Around} {E : Value → Shared → Prop}
end
section
variable {X : Cx}
end
end L2
namespace L2
open PySem PySem.Spec PyProof.Rows
section
variable {X : Cx}
end
end L2
namespace L2
open PySem PySem.Spec PyProof.Rows
def TDi (P : Program) (w : World) (K : PySem.W.Frag) (a : Addr) (vs : List (Key × Value)) : Prop :=
  (a == sysModules) = false ∧ ∃ o es ep, K.lookup a = some o ∧ o.ExactDict ∧ o.data = Data.dict es ep ∧ PySem.KeysOf (mixKind P w) es ∧ Pairs (mixKind P w) es.toList vs ∧ (vs.map (·.1)).Nodup
theorem TDi.dict {P : Program} {w : World} {K : PySem.W.Frag} {a : Addr} {vs : List (Key × Value)} {h : Heap} (t : TDi P w K a vs) (k : K.In h) : Heap.DictOf (mixKind P w) h a vs := by
  obtain ⟨_, o, es, ep, l, r⟩ := t
  exact ⟨o, es, ep, k a o l, r⟩
theorem tdi2 {P : Program} {w : World} {K : PySem.W.Frag} {a : Addr} {x1 x2 : Str} {t1 t2 : Tok} {v1 v2 : Value} {ep : Nat} {h1 h2 : Int} (hs : (a == sysModules) = false)
    (l : K.lookup a = some ⟨.type "dict", none, .dict #[⟨h1, .str x1 t1, v1⟩, ⟨h2, .str x2 t2, v2⟩] ep, #[]⟩) (e1 : h1 = hashStr w x1) (e2 : h2 = hashStr w x2) (ne : ¬ x1 = x2) : TDi P w K a [(Sum.inr x1, v1), (Sum.inr x2, v2)] := by
  refine ⟨hs, _, _, _, l, ⟨rfl, rfl, rfl⟩, rfl, ?_, .cons (keyIs_str x1 t1) rfl (.cons (keyIs_str x2 t2) rfl .nil), ?_⟩
  · intro e he
    have he : e = ⟨h1, .str x1 t1, v1⟩ ∨ e = ⟨h2, .str x2 t2, v2⟩ := by simpa using he
    rcases he with rfl | rfl
    · exact ⟨Sum.inr x1, keyIs_str x1 t1, e1⟩
    · exact ⟨Sum.inr x2, keyIs_str x2 t2, e2⟩
  · simp [ne]
section
variable {X : Cx}
def rInK (P : Program) (w : World) (K : PySem.W.Frag) : R2 := fun x y H Q => ∃ (a : Addr) (vs : List (Key × Value)) (k : Key), x = kV k ∧ y = .ref a ∧ TDi P w K a vs ∧ Q (.bl (valueAt vs k).isSome) H
theorem op_inK : OpR X (compareOp .In) (rInK X.prog X.w X.K) := by
  intro pins s σ H x y v u Q I rx ry h
  obtain ⟨a, vs, k, rfl, rfl, t, q⟩ := h
  cases (show u = Value.ref a from ry)
  exact wpAny_in_of (kV_is rx) t.1 (t.dict I.kIn).mapOf ⟨.bl _, H, I.tok _, rfl, q⟩
end
end L2
namespace Sq
open PySem
def txt (l : List Nat) : Str := ⟨l.toArray⟩
theorem txt_len (l : List Nat) : (txt l).length = l.length := by simp [txt, Str.length]
theorem txt_app (a b : List Nat) : txt a ++ txt b = txt (a ++ b) := Str.ext' (by rw [Str.cps_append]; simp [txt])
theorem txt_cps (l : List Nat) : (txt l).cps.toList = l := by simp [txt]
theorem txt_inj {a b : List Nat} (h : txt a = txt b) : a = b := by rw [← txt_cps a, h, txt_cps]
theorem txt_one (c : Nat) : (⟨#[c]⟩ : Str) = txt [c] := rfl
theorem txt_get (l : List Nat) (i : Nat) : (txt l).cps[i]? = l[i]? := by simp [txt]
end Sq
namespace K1
open PySem L2 Sq
abbrev lts (v1 v2 : Value) : List (Key × Value) := [(Sum.inr (Str.ofString "s"), v1), (Sum.inr (Str.ofString "t"), v2)]
theorem str_s : (Str.ofString "s") = txt [115] := by decide +kernel
theorem str_t : (Str.ofString "t") = txt [116] := by decide +kernel
def isST (c : Nat) : Bool := c == 115 || c == 116
def okW (z : List Nat) : Bool := decide (z.length ≤ 1000) && z.all isST
theorem lts_is (v1 v2 : Value) (c : Nat) : (valueAt (lts v1 v2) (Sum.inr (txt [c]) : Key)).isSome = isST c := by
  have e : ∀ d : Nat, ((Sum.inr (txt [d]) : Key) = Sum.inr (txt [c])) ↔ d = c := fun d => ⟨fun z => by have := txt_inj (Sum.inr.inj z); simpa using this, fun z => by rw [z]⟩
  unfold lts isST
  rw [str_s, str_t]
  by_cases h1 : c = 115
  · subst h1; simp [valueAt]
  · by_cases h2 : c = 116
    · subst h2
      have : ¬ ((Sum.inr (txt [115]) : Key) = Sum.inr (txt [116])) := fun z => absurd ((e 115).mp z) (by decide)
      have e3 : txt [115] ≠ txt [116] := fun z => absurd (txt_inj z) (by decide)
      simp [valueAt, e3]
    · have e3 : txt [115] ≠ txt [c] := fun z => h1 (by have := txt_inj z; simpa using this.symm)
      have e4 : txt [116] ≠ txt [c] := fun z => h2 (by have := txt_inj z; simpa using this.symm)
      simp [valueAt, e3, e4, h1, h2]
theorem small100k' {n : Nat} (h : n ≤ 100000) : n < sizeLine := by
  have : 100000 < sizeLine := by decide
  omega
theorem cpostB' {n : Nat} {ys : List V} {Pv : Nat → St → Hp → Prop} {d : Addr} {i : Nat} {σ3 : St} {y : V} {H4 : Hp} (hi : i < n) (hn : n ≤ 100000) (hd : H4 d = some (.lst (ys.take i))) (hy : ys[i]? = some y) (hp : Pv (i + 1) σ3 (upd H4 d (.lst (ys.take (i + 1))))) :
    CPost n ys Pv d i σ3 y H4 := by
  have e : ys.take (i + 1) = ys.take i ++ [y] := by rw [List.take_add_one, hy]; rfl
  refine ⟨_, hd, ?_, n - (i + 1), by omega, rfl, hi, by rw [← e]; exact hp, by rw [upd_same, e]⟩
  have : (ys.take i).length ≤ i := by rw [List.length_take]; exact Nat.min_le_left _ _
  exact small100k' (by omega)
theorem compST {P : Program} {w : World} {K : PySem.W.Frag} {Hc : Hp} {dL : Addr} {v1 v2 : Value} {z : List Nat} {j : Nat} {Q : VK} {σ : St} (h2 : σ[j]? = some (some (.str (txt z)))) (hb : bst 1 [] σ = [none]) (hL : TDi P w K dL (lts v1 v2)) (hz : z.length ≤ 100000)
    (k : ∀ (H' : Hp) (d : Addr), Same Hc H' → H' d = some (.lst ((z.map isST).map V.bl)) → Q (.ref d) H') :
    tComp (iStr (tVar j)) 1 [] (gName 0) (tOp (rInK P w K) (tVar 0) (tC (.ref dL))) σ Hc Q := by
  refine ⟨_, h2, txt z, rfl, fun d hd => ?_⟩
  rw [hb]
  refine comp_by (Q := fun d H' => Q (.ref d) H') z.length ((z.map isST).map V.bl) (by simp) (fun i σ H3 => ∃ o, σ = [o] ∧ Same Hc H3) ⟨_, rfl, same_upd (Same.refl _) hd⟩ ?_ ?_
  · rintro i σ H3 hi ⟨o, rfl, s3⟩ hd3
    refine ⟨by show i < (txt z).length; rw [txt_len]; exact hi, fun x H4 ⟨e1, c, hc, e2⟩ => ?_⟩
    subst e1 e2
    rw [txt_get] at hc
    refine ⟨_, rfl, dL, _, (Sum.inr (txt [c]) : Key), rfl, rfl, hL, ?_⟩
    rw [lts_is]
    exact cpostB' hi hz hd3 (by simp [hc]) ⟨_, rfl, same_upd s3 hd⟩
  · rintro σ H3 ⟨o, rfl, s3⟩ hd3
    exact ⟨by show (txt z).length = z.length; rw [txt_len], k H3 d s3 hd3⟩
def spNd (CW : Addr) : Sp := fun vs H Q E => ∃ z : List Nat, vs = [.str (txt z)] ∧ z.length ≤ 100000 ∧ (okW z = true → ∀ H' : Hp, Same H H' → Q .non H') ∧ (okW z = false → ∀ H' : Hp, Same H H' → E (.ref CW) none H')
section
variable {P : Program} {w : World} {K : PySem.W.Frag} {mg : Str → Option Value} {base : Heap}
end
end K1
namespace K1
open PySem L2 Sq
section
variable {P : Program} {w : World} {K : PySem.W.Frag} {mg : Str → Option Value} {base : Heap}
abbrev n_nd : List Str := ["word"]
theorem sc_nd : FnScope n_nd ["word"] (defScope sNeedWord) := ⟨rfl, rfl, rfl, by decide +kernel, rfl, by decide +kernel, by decide +kernel⟩
theorem nd_nd : (["letter"] : List Str).Nodup := by decide +kernel
theorem ok_nd {f : Addr} {fd : FuncData} {CW dL : Addr} {tk : Tok} {v1 v2 : Value} (T : Bi mg) (hC : ExCls K CW) (hCm : mg "NoWord" = some (.ref CW)) (C_LETTERS : mg "LETTERS" = some (.ref dL)) (hL : TDi P w K dL (lts v1 v2)) (C_MOST_LETTERS : mg "MOST_LETTERS" = some (.int 1000 tk)) (F : Fn K mg "need_word" sNeedWord ["word"] f fd) : FnOk P w K mg base (CX1 P w) 1 f fd ["word"] (spNd CW) := by
  refine F.F.ok1 sc_nd (fun vs H Q E h => ?_) (fun cdv A outer s H vs Q E hr h => ?_)
  · obtain ⟨z, rfl, _⟩ := h; rfl
  · obtain ⟨z, rfl, hz, k1, k2⟩ := h
    refine ⟨_, (pss_one (ps_if (PW.pt (pw_or (pt_cmpR op_gt (pe_callB call_len_str rfl T.len PySem.boot_len (pa_cons (pv 0) pa_nil)) (pe_glob (v := .int 1000) (by rfl) C_MOST_LETTERS ⟨_, rfl⟩) (nomark _)) (pw_or1 (pt_not (pt_val (pe_callB (call_all_bools rfl) rfl T.all boot_all (pa_cons (pe_comp (N := n_nd) (names := (defScope sNeedWord).names) (N' := ["letter"]) (k := 1) (pull := []) (te := tOp (rInK P w K) (tVar 0) (tC (.ref dL))) rfl ⟨by rfl, by decide +kernel, by decide +kernel, by rfl, by decide +kernel, by decide +kernel⟩ rfl rfl (pi_str (pv 0)) (fun _ _ _ _ _ _ => pg_name (i := 0) nd_nd rfl (Or.inl rfl)) (fun _ _ _ _ _ _ => pe_cmpR op_inK (pv 0) (pe_glob (v := .ref dL) (by rfl) C_LETTERS rfl) (by with_unfolding_all rfl))) pa_nil))))))) (pss_one (ps_raise rfl hC rfl hCm throw1 (pa_cons (pe_fstr (.cons pe_str (.cons (pe_fmtI (pe_glob (v := .int 1000) (by rfl) C_MOST_LETTERS ⟨_, rfl⟩)) (.cons pe_str .nil)))) pa_nil))) pss_nil)), ?_⟩
    have rs : okW z = false → ∀ H' : Hp, Same H H' → tRaise (tCons (tParts [tC (.str (Str.ofString "a word has at most ")), tFmtI (tC (.int 1000)), tC (.str (Str.ofString " letters, s and t alone"))] Str.empty) tNil) CW E { nx := fun _ H' => Q .non H', rt := Q } [some (.str (txt z))] H' := fun ho H' s' => by
      refine ⟨_, rfl, by decide, ?_⟩
      refine ⟨1000, rfl, by decide, _, rfl, by decide, ?_⟩
      refine ⟨_, rfl, by decide, ?_⟩
      exact ⟨by show 1 ≤ sizeLine; decide, k2 ho H' s'⟩
    refine ⟨_, rfl, txt z, rfl, by rw [txt_len]; exact Nat.le_of_lt (small100k' hz), _, _, rfl, rfl, _, rfl, ?_⟩
    rw [txt_len]
    by_cases hl : z.length ≤ 1000
    · rw [decide_eq_false (by omega)]
      refine iteF ?_
      dsimp only [tNext, tSeq, tIfS, tNot, tB, tCB, tCons]
      refine compST rfl rfl hL hz fun H1 d s1 hd => ?_
      refine ⟨d, _, rfl, SqL.of hd, _, rfl, ?_⟩
      have eall : ((z.map isST).all id) = z.all isST := by rw [List.all_map]; rfl
      rw [eall]
      cases ha : z.all isST with
      | false =>
        refine iteT ?_
        exact rs (by unfold okW; rw [ha, Bool.and_false]) H1 s1
      | true =>
        refine iteF ?_
        exact k1 (by unfold okW; rw [ha, decide_eq_true hl]; rfl) H1 s1
    · rw [decide_eq_true (by omega)]
      refine iteT ?_
      exact rs (by unfold okW; rw [decide_eq_false hl]; rfl) H (Same.refl _)
end
end K1
namespace K1
open PySem L2 Sq
def mv1 (n c : Nat) (x : List Nat × List Nat) : List Nat × List Nat := if c = 115 then (x.1, cmp n x.2 (back x.1)) else (back x.2, x.1)
def mvs (n : Nat) (z : List Nat) (x : List Nat × List Nat) : List Nat × List Nat := z.foldl (fun x c => mv1 n c x) x
theorem mv1_row {n c : Nat} {x : List Nat × List Nat} (h : Row n x.1 ∧ Row n x.2) : Row n (mv1 n c x).1 ∧ Row n (mv1 n c x).2 := by
  unfold mv1
  split
  · exact ⟨h.1, cmp_row h.2 h.1.back⟩
  · exact ⟨h.2.back, h.1⟩
theorem mvs_row {n : Nat} : ∀ (z : List Nat) {x : List Nat × List Nat}, Row n x.1 ∧ Row n x.2 → Row n (mvs n z x).1 ∧ Row n (mvs n z x).2
  | [], _, h => h
  | c :: z, x, h => mvs_row z (x := mv1 n c x) (mv1_row h)
theorem mvs_snoc (n : Nat) (z : List Nat) (c : Nat) (x : List Nat × List Nat) : mvs n (z ++ [c]) x = mv1 n c (mvs n z x) := by unfold mvs; rw [List.foldl_append]; rfl
def spM1 : Sp := fun vs H Q _ => ∃ (a : Addr) (c n : Nat) (r u : List Nat), vs = [.ref a, .str (txt [c])] ∧ ShAt H a r u ∧ Row n r ∧ Row n u ∧ n ≤ 36 ∧ ∀ (H' : Hp) (b : Addr), Same H H' → ShAt H' b (mv1 n c (r, u)).1 (mv1 n c (r, u)).2 → Q (.ref b) H'
def spMd (CW : Addr) : Sp := fun vs H Q E => ∃ (a : Addr) (z : List Nat) (n : Nat) (r u : List Nat), vs = [.ref a, .str (txt z)] ∧ z.length ≤ 100000 ∧ ShAt H a r u ∧ Row n r ∧ Row n u ∧ n ≤ 36 ∧ (okW z = true → ∀ (H' : Hp) (b : Addr), Same H H' → ShAt H' b (mvs n z (r, u)).1 (mvs n z (r, u)).2 → Q (.ref b) H') ∧ (okW z = false → ∀ H' : Hp, Same H H' → E (.ref CW) none H')
section
variable {P : Program} {w : World} {K : PySem.W.Frag} {mg : Str → Option Value} {base : Heap}
abbrev n_m1 : List Str := ["sheet", "letter"]
theorem sc_m1 : FnScope n_m1 ["sheet", "letter"] (defScope sMovedOnce) := ⟨rfl, rfl, rfl, by decide +kernel, rfl, by decide +kernel, by decide +kernel⟩
theorem ok_m1 {f fs ft : Addr} {fd ds dt : FuncData} (F : Fn K mg "moved_once" sMovedOnce ["sheet", "letter"] f fd) (FS : Fn K mg "sheared" sSheared ["sheet"] fs ds) (GS : FnOk P w K mg base CX0 2 fs ds ["sheet"] spShr)
    (FT : Fn K mg "turned" sTurned ["sheet"] ft dt) (GT : FnOk P w K mg base CX0 2 ft dt ["sheet"] spTrn) : FnOk P w K mg base CX0 3 f fd ["sheet", "letter"] spM1 := by
  refine F.F.ok sc_m1 (fun vs H Q E h => ?_) (fun cdv A outer s H vs Q E hr h => ?_)
  · obtain ⟨a, c, n, r, u, rfl, _⟩ := h; rfl
  · obtain ⟨a, c, n, r, u, rfl, hsh, rr, ru, hn, k⟩ := h
    have hr1 : Room 1 _ := hr.mono (by decide)
    refine ⟨_, (pss_cons (ps_if (pt_cmpR op_eq (pv 1) pe_str (nomark _)) (pss_one (ps_ret (pe_call GS hr rfl FS.m FS.F.kp FS.b .nil pass0 (pa_cons (pv 0) pa_nil)))) pss_nil)
      (pss_one (ps_ret (pe_call GT hr rfl FT.m FT.F.kp FT.b .nil pass0 (pa_cons (pv 0) pa_nil))))), ?_⟩
    refine ⟨_, rfl, rfl, _, rfl, ?_⟩
    by_cases e : c = 115
    · subst e
      rw [decide_eq_true (congrArg V.str str_s.symm)]
      refine iteT ?_
      exact ⟨_, rfl, a, n, r, u, rfl, hsh, rr, ru, hn, fun H1 b s1 hb => k H1 b s1 hb⟩
    · rw [decide_eq_false (fun z => e (by have := txt_inj ((V.str.inj z).trans str_s); simpa using this))]
      refine iteF ?_
      refine ⟨_, rfl, a, n, r, u, rfl, hsh, rr, ru, hn, fun H1 b s1 hb => k H1 b s1 ?_⟩
      unfold mv1; rw [if_neg e]; exact hb
abbrev n_md : List Str := ["sheet", "word", "told", "letter"]
theorem sc_md : FnScope n_md ["sheet", "word"] (defScope sMoved) := ⟨rfl, rfl, rfl, by decide +kernel, rfl, by decide +kernel, by decide +kernel⟩
theorem ok_md {f fn fm : Addr} {fd dn dm : FuncData} {CW : Addr} (F : Fn K mg "moved" sMoved ["sheet", "word"] f fd) (FN : Fn K mg "need_word" sNeedWord ["word"] fn dn) (GN : FnOk P w K mg base (CX1 P w) 1 fn dn ["word"] (spNd CW))
    (FM : Fn K mg "moved_once" sMovedOnce ["sheet", "letter"] fm dm) (GM : FnOk P w K mg base CX0 3 fm dm ["sheet", "letter"] spM1) : FnOk P w K mg base (CX1 P w) 4 f fd ["sheet", "word"] (spMd CW) := by
  refine F.F.ok1 sc_md (fun vs H Q E h => ?_) (fun cdv A outer s H vs Q E hr h => ?_)
  · obtain ⟨a, z, n, r, u, rfl, _⟩ := h; rfl
  · obtain ⟨a, z, n, r, u, rfl, hz, hsh, rr, ru, hn, k1, k2⟩ := h
    have hr1 : Room 1 _ := hr.mono (by decide)
    refine ⟨_, (pss_cons (ps_expr (pe_call GN hr1 rfl FN.m FN.F.kp FN.b .nil (pass1 fun _ _ _ z => z) (pa_cons (pv 1) pa_nil)))
      (PSs.nox (pss_cons (ps_set (i := 2) sc_md.nd rfl (Or.inl rfl) (pv 0))
      (pss_cons (ps_for PassesOwn.never rfl (pi_str (pv 1)) (pg_name (i := 3) sc_md.nd rfl (Or.inl rfl)) (pss_one (ps_set (i := 2) sc_md.nd rfl (Or.inl rfl) (pe_call GM hr rfl FM.m FM.F.kp FM.b .nil pass0 (pa_cons (pv 2) (pa_cons (pv 3) pa_nil))))))
      (pss_one (ps_ret (pv 2))))))), ?_⟩
    refine ⟨_, rfl, z, rfl, hz, fun ho H1 s1 => ?_, k2⟩
    refine ⟨_, rfl, ?_⟩
    refine ⟨_, rfl, _, rfl, for_str (fun i σ H3 => Same H H3 ∧ ∃ b o3, σ = [some (.ref a), some (.str (txt z)), some (.ref b), o3] ∧ ShAt H3 b (mvs n (z.take i) (r, u)).1 (mvs n (z.take i) (r, u)).2) ⟨s1, a, _, rfl, hsh.same s1⟩ ?_ ?_⟩
    · rintro i c σ H3 hc ⟨s3, b, o3, rfl, hb⟩
      rw [txt_get] at hc
      obtain ⟨q1, q2⟩ := mvs_row (z.take i) (x := (r, u)) ⟨rr, ru⟩
      refine ⟨_, rfl, _, rfl, b, c, n, _, _, rfl, hb, q1, q2, hn, fun H4 b2 s4 hb2 => ⟨s3.trans s4, b2, _, rfl, ?_⟩⟩
      have : z.take (i + 1) = z.take i ++ [c] := by rw [List.take_add_one, hc]; rfl
      rw [this, mvs_snoc]; exact hb2
    · rintro σ H3 ⟨s3, b, o3, rfl, hb⟩
      rw [txt_len, List.take_length] at hb
      exact ⟨_, rfl, k1 ho H3 b s3 hb⟩
end
end K1
namespace K1
open PySem L2 Sq
section
variable {P : Program} {w : World} {K : PySem.W.Frag} {mg : Str → Option Value} {base : Heap}
theorem scSize : FnScope ["sheet"] ["sheet"] (defScope sSize) := ⟨rfl, rfl, rfl, by decide +kernel, rfl, by decide +kernel, by decide +kernel⟩
theorem ok_size {f : Addr} {fd : FuncData} (T : Bi mg) (F : Fn K mg "size" sSize ["sheet"] f fd) : FnOk P w K mg base CX0 1 f fd ["sheet"] spSize := by
  refine F.F.ok scSize (fun vs H Q E h => ?_) (fun cdv A outer s H vs Q E hr h => ?_)
  · obtain ⟨a, r, u, rfl, _⟩ := h; rfl
  · obtain ⟨a, r, u, rfl, ⟨p, q, h1, h2, h3⟩, k⟩ := h
    refine ⟨_, pss_one (ps_ret (pe_callB call_len_seq (by rfl) T.len PySem.boot_len (pa_cons (pe_ix ix_tup (pv 0) pe_int (fun _ _ => rfl)) pa_nil))), ?_⟩
    refine ⟨_, rfl, a, _, 0, _, rfl, rfl, SqT.of h1, atI_nat (j := 0) rfl, p, _, rfl, .inr (SqT.of h2), ?_⟩
    rw [nv_len]; exact k
end
end K1
namespace K1
open PySem L2 Sq
section
variable {P : Program} {w : World} {K : PySem.W.Frag} {mg : Str → Option Value} {base : Heap}
theorem scIsSq : FnScope ["thing", "squares"] ["thing", "squares"] (defScope sIsSq) := ⟨rfl, rfl, rfl, by decide +kernel, rfl, by decide +kernel, by decide +kernel⟩
theorem scIsWh : FnScope ["thing"] ["thing"] (defScope sIsWhole) := ⟨rfl, rfl, rfl, by decide +kernel, rfl, by decide +kernel, by decide +kernel⟩
theorem ok_isWh {f : Addr} {fd : FuncData} (T : Bi mg) (F : Fn K mg "is_whole" sIsWhole ["thing"] f fd) : FnOk P w K mg base CX0 1 f fd ["thing"] spWhole := by
  refine F.F.ok scIsWh (fun vs H Q E h => ?_) (fun cdv A outer s H vs Q E hr h => ?_)
  · obtain ⟨i, rfl, _⟩ := h; rfl
  · obtain ⟨i, rfl, k⟩ := h
    refine ⟨_, pss_one (ps_ret (pe_and (pe_callB call_isinst (by rfl) T.isin boot_isin (pa_cons (pv 0) (pa_cons (pe_bltn (v := .ty "int") (by rfl) T.int boot_int rfl) pa_nil)))
      (pe_one (pe_not (pe_callB call_isinst (by rfl) T.isin boot_isin (pa_cons (pv 0) (pa_cons (pe_bltn (v := .ty "bool") (by rfl) T.bool boot_bool rfl) pa_nil))))))), ?_⟩
    refine ⟨_, rfl, _, _, _, _, rfl, .int i, kit_int_int K, _, rfl, ?_⟩
    refine iteT ?_
    exact ⟨_, rfl, _, _, _, _, rfl, .int i, kit_int_bool K, _, rfl, k⟩
theorem ok_isSq {f fw : Addr} {fd fdw : FuncData} (T : Bi mg) (F : Fn K mg "is_square" sIsSq ["thing", "squares"] f fd) (FW : Fn K mg "is_whole" sIsWhole ["thing"] fw fdw) : FnOk P w K mg base CX0 2 f fd ["thing", "squares"] spIsSq := by
  have GW : FnOk P w K mg base CX0 1 fw fdw ["thing"] spWhole := ok_isWh T FW
  refine F.F.ok scIsSq (fun vs H Q E h => ?_) (fun cdv A outer s H vs Q E hr h => ?_)
  · obtain ⟨i, n, rfl, _⟩ := h; rfl
  · obtain ⟨i, n, rfl, k⟩ := h
    refine ⟨_, pss_one (ps_ret (pe_and (pe_call GW hr rfl FW.m FW.F.kp FW.b .nil pass0 (pa_cons (pv 0) pa_nil)) (pe_one (pe_chain op_le op_lt pe_int (pv 0) (pv 1))))), ?_⟩
    refine ⟨_, rfl, i, rfl, _, rfl, ?_⟩
    refine iteT ?_
    refine ⟨_, rfl, _, _, rfl, rfl, _, rfl, ?_⟩
    refine ite2 (fun h => ?_) (fun h => ?_)
    · have h : 0 ≤ i := of_decide_eq_true h
      refine ⟨_, rfl, _, _, rfl, rfl, ?_⟩
      have e : decide (0 ≤ i ∧ i < n) = decide (i < n) := by simp [h]
      rw [e] at k; exact k
    · have h : ¬ 0 ≤ i := fun z => h (decide_eq_true z)
      have e : decide (0 ≤ i ∧ i < n) = false := by simp [h]
      rw [e] at k; exact k
end
end K1
namespace K1
open PySem L2 Sq
def isSq (n : Nat) (i : Int) : Bool := decide (0 ≤ i ∧ i < (n : Int))
def spNeed (CN : Addr) : Sp := fun vs H Q E => ∃ (a : Addr) (r u : List Nat) (i : Int), vs = [.ref a, .int i] ∧ ShAt H a r u ∧ (isSq r.length i = true → Q .non H) ∧ (isSq r.length i = false → E (.ref CN) none H)
section
variable {P : Program} {w : World} {K : PySem.W.Frag} {mg : Str → Option Value} {base : Heap}
theorem scNeed : FnScope ["sheet", "square"] ["sheet", "square"] (defScope sNeed) := ⟨rfl, rfl, rfl, by decide +kernel, rfl, by decide +kernel, by decide +kernel⟩
theorem ok_need {f fz fq CN : Addr} {fd fdz fdq : FuncData} (hC : ExCls K CN) (hm : mg "NoSquare" = some (.ref CN)) (F : Fn K mg "need_square" sNeed ["sheet", "square"] f fd) (FZ : Fn K mg "size" sSize ["sheet"] fz fdz) (GZ : FnOk P w K mg base CX0 1 fz fdz ["sheet"] spSize)
    (FQ : Fn K mg "is_square" sIsSq ["thing", "squares"] fq fdq) (GQ : FnOk P w K mg base CX0 2 fq fdq ["thing", "squares"] spIsSq) : FnOk P w K mg base (CX1 P w) 3 f fd ["sheet", "square"] (spNeed CN) := by
  refine F.F.ok1 scNeed (fun vs H Q E h => ?_) (fun cdv A outer s H vs Q E hr h => ?_)
  · obtain ⟨a, r, u, i, rfl, _⟩ := h; rfl
  · obtain ⟨a, r, u, i, rfl, hsh, k1, k2⟩ := h
    have hr1 : Room 1 _ := hr.mono (by decide)
    refine ⟨_, pss_one (ps_if (pt_not (pt_val (pe_call GQ hr rfl FQ.m FQ.F.kp FQ.b .nil pass0 (pa_cons (pv 1) (pa_cons (pe_call GZ hr1 rfl FZ.m FZ.F.kp FZ.b .nil pass0 (pa_cons (pv 0) pa_nil)) pa_nil)))))
      (pss_one (ps_raise rfl hC rfl hm throw1 (pa_cons pe_str pa_nil))) pss_nil), ?_⟩
    refine ⟨_, rfl, _, rfl, a, r, u, rfl, hsh, i, _, rfl, ?_⟩
    refine ⟨_, rfl, ?_⟩
    cases hb : decide (0 ≤ i ∧ i < (r.length : Int)) with
    | true =>
      refine iteF ?_
      exact k1 hb
    | false =>
      refine iteT ?_
      exact ⟨by show 1 ≤ sizeLine; decide, k2 hb⟩
end
end K1
namespace K1
open PySem L2 Sq
def spBackA (K : PySem.W.Frag) : Sp := fun vs H Q _ => ∃ (p : Addr) (n : Nat) (r : List Nat), vs = [.ref p] ∧ RowAt K H p r ∧ Row n r ∧ n ≤ 36 ∧ ∀ (H' : Hp) (l : Addr), Same H H' → H' l = some (.tup (nv (back r))) → Q (.ref l) H'
/-- enumerate(row), row in the first slot: a list or a tuple -/
theorem enAny {K : PySem.W.Frag} {H : Hp} {p : Addr} {r : List Nat} (hp : RowAt K H p r) : ∃ sq : Hp → List V → Prop, (∀ H2, Same H H2 → sq H2 (nv r)) ∧ ∀ (H1 : Hp) (s1 : Same H H1) (σ : St) (hσ : σ[0]? = some (some (.ref p))) (R : It → Hp → Prop), R (Iten sq) H1 →
    iEnumL K (tCons (tVar 0) tNil) σ H1 R ∨ iEnumT K (tCons (tVar 0) tNil) σ H1 R := by
  rcases hp with h | h
  · exact ⟨fun H xs => SqL K H p xs, fun H2 s2 => s2.seq h, fun H1 s1 σ hσ R hR => .inl ⟨_, hσ, p, rfl, ⟨_, s1.seq h⟩, hR⟩⟩
  · exact ⟨fun H xs => SqT K H p xs, fun H2 s2 => Same.tseq s2 h, fun H1 s1 σ hσ R hR => .inr ⟨_, hσ, p, rfl, ⟨_, Same.tseq s1 h⟩, hR⟩⟩
section
variable {P : Program} {w : World} {K : PySem.W.Frag} {mg : Str → Option Value} {base : Heap}
theorem scBackA : FnScope ["row", "back", "square", "target"] ["row"] (defScope sBackRow) := ⟨rfl, rfl, rfl, by decide +kernel, rfl, by decide +kernel, by decide +kernel⟩
theorem ok_backA {f : Addr} {fd : FuncData} (T : Bi mg) (F : Fn K mg "back_row" sBackRow ["row"] f fd) : FnOk P w K mg base CX0 1 f fd ["row"] (spBackA K) := by
  refine F.F.ok scBackA (fun vs H Q E h => ?_) (fun cdv A outer s H vs Q E hr h => ?_)
  · obtain ⟨p, n, r, rfl, _⟩ := h; rfl
  · obtain ⟨p, n, r, rfl, hp, rr, hn, k⟩ := h
    refine ⟨_, pss_cons (ps_set (i := 1) scBackA.nd rfl (Or.inl rfl) (pe_callTy call_list_of rfl T.list boot_list (pa_cons (pv 0) pa_nil)))
      (pss_cons (ps_for PassesOwn.never rfl (PI.or (pi_enumL rfl T.enum (pa_cons (pv 0) pa_nil)) (pi_enumT rfl T.enum (pa_cons (pv 0) pa_nil))) (pg_tupE rfl (pgs_cons (pg_name (i := 2) scBackA.nd rfl (Or.inl rfl)) (pgs_cons (pg_name (i := 3) scBackA.nd rfl (Or.inl rfl)) pgs_nil)))
        (pss_one (ps_lput (pv 1) (pv 3) (pv 2) rfl)))
      (pss_one (ps_ret (pe_callTy call_tuple_of rfl T.tuple boot_tuple (pa_cons (pv 1) pa_nil))))), ?_⟩
    refine ⟨_, rfl, p, _, rfl, hp, fun lb hlb => ?_⟩
    have s1 : Same H (upd H lb (.lst (nv r))) := same_upd (Same.refl H) hlb
    obtain ⟨sq, hsq, hor⟩ := enAny hp
    refine hor _ s1 _ rfl _ ?_
    refine for_en (sq := sq) (xs := nv r) (fun i σ H2 => ∃ o2 o3 bl, σ = [some (.ref p), some (.ref lb), o2, o3] ∧ Same H H2 ∧ H2 lb = some (.lst (nv bl)) ∧ bl.length = n ∧ ∀ k, k < i → bl[nx r k]? = some k)
      ⟨_, _, r, rfl, s1, upd_same, rr.len, fun k hk => absurd hk (Nat.not_lt_zero _)⟩ (fun i σ H2 _ ⟨_, _, _, _, s2, _⟩ => hsq _ s2) ?_ ?_
    · rintro i x σ H2 T' hx hT ⟨o2, o3, bl, rfl, s2, h2, hbl, hall⟩
      obtain ⟨y, hy, rfl⟩ := nv_get' hx
      have hi : i < n := by rw [← rr.len]; exact (List.getElem?_eq_some_iff.mp hy).1
      have ey : y = nx r i := by have := rr.get hi; rw [hy] at this; exact Option.some.inj this
      have hyn : y < n := by rw [ey]; exact rr.nlt hi
      have h2' : (upd H2 T' (tupE T' [.int (i : Int), .int (y : Int)])) lb = some (.lst (nv bl)) := by rw [upd_ne (ne_of_none h2 hT)]; exact h2
      refine ⟨T', _, rfl, upd_same, rfl, _, _, rfl, _, _, rfl, rfl, ?_⟩
      refine ⟨_, rfl, _, rfl, _, rfl, lb, _, _, y, rfl, rfl, h2', ?_, ?_⟩
      · unfold ixN
        rw [if_pos (by omega), if_pos (by rw [nv_len, hbl]; omega)]
        simp
      refine ⟨_, _, bl.set y i, rfl, same_upd (same_upd s2 (s2.free hT)) hlb, by rw [upd_same, nv_set], by rw [List.length_set]; exact hbl, fun k hk => ?_⟩
      rcases Nat.lt_or_ge k i with c | c
      · have hne : y ≠ nx r k := fun z => by
          rw [ey] at z
          have := rr.inj hi (by omega) z
          omega
        rw [List.getElem?_set_ne hne]
        exact hall k c
      · have : k = i := by omega
        subst this
        rw [← ey, List.getElem?_set_self (by rw [hbl]; exact hyn)]
    · rintro σ H2 ⟨o2, o3, bl, rfl, s2, h2, hbl, hall⟩
      rw [nv_len, rr.len] at hall
      have e := back_fill rr hbl hall
      subst e
      refine ⟨_, rfl, lb, _, rfl, .inl ⟨SqL.of h2, fun l hl => k _ l (same_upd s2 (s2.free hl)) upd_same⟩⟩
end
end K1
namespace Sq
def bstep (r u M : List Nat) (k : Nat) : List Nat := match M[k]? with
  | some x => put (put M (nx r x)) (nx u x)
  | none => M
def bf (r u : List Nat) (first : Nat) : Nat → List Nat
  | 0 => [first]
  | k + 1 => bstep r u (bf r u first k) k
def order (r u : List Nat) (first : Nat) : List Nat := bf r u first 100
theorem bf_next {r u : List Nat} {first k x : Nat} (h : (bf r u first k)[k]? = some x) : bf r u first (k + 1) = put (put (bf r u first k) (nx r x)) (nx u x) := by
  show bstep r u (bf r u first k) k = _
  unfold bstep; rw [h]
theorem bf_stable {r u : List Nat} {first k : Nat} (h : (bf r u first k).length ≤ k) : ∀ j, bf r u first (k + j) = bf r u first k
  | 0 => rfl
  | j + 1 => by
    have ih := bf_stable h j
    show bstep r u (bf r u first (k + j)) (k + j) = _
    rw [ih]
    unfold bstep
    rw [List.getElem?_eq_none (by omega)]
theorem bf_order {r u : List Nat} {first k : Nat} (h : (bf r u first k).length ≤ k) (hk : k ≤ 100) : order r u first = bf r u first k := by
  have := bf_stable h (100 - k)
  rwa [show k + (100 - k) = 100 from by omega] at this
theorem shut_compl {n : Nat} {r M : List Nat} (hr : Row n r) (nd : M.Nodup) (lt : ∀ x ∈ M, x < n) (sh : ∀ x ∈ M, nx r x ∈ M) {x : Nat} (hx : x < n) (hn : x ∉ M) : nx r x ∉ M := fun z => by
  have nd' : (M.map (nx r)).Nodup := List.pairwise_map.mpr (List.Pairwise.imp_of_mem (fun {a b} ha hb hne e => hne (hr.inj (lt a ha) (lt b hb) e)) nd)
  have := full nd' (l' := M) (fun y hy => by obtain ⟨w, hw, rfl⟩ := List.mem_map.mp hy; exact sh w hw) (by simp) _ z
  obtain ⟨w, hw, e⟩ := List.mem_map.mp this
  exact hn (hr.inj (lt w hw) hx e ▸ hw)
theorem MetAll.fullAny {n : Nat} {r u : List Nat} {first : Nat} {M : List Nat} (s : Sheet n r u) (h : MetAll n r u first M) : Row n M := by
  have h0 : 0 ∈ M := Classical.byContradiction fun h0 => by
    have := s.conn (fun x => x ∉ M) h0 (fun x hx hn => ⟨shut_compl s.row h.nd h.lt (fun y hy => (h.shut y hy).1) hx hn, shut_compl s.col h.nd h.lt (fun y hy => (h.shut y hy).2) hx hn⟩) first (h.lt _ h.hd)
    exact this h.hd
  have all : ∀ x, x < n → x ∈ M := s.conn (fun x => x ∈ M) h0 fun x _ hx => h.shut x hx
  have l1 := sub_len M (List.range n) h.nd fun x hx => List.mem_range.mpr (h.lt x hx)
  have l2 := sub_len (List.range n) M List.nodup_range fun x hx => all x (List.mem_range.mp hx)
  simp only [List.length_range] at l1 l2
  exact ⟨by omega, h.nd, h.lt⟩
theorem Met.order {n : Nat} {r u : List Nat} {first k : Nat} (s : Sheet n r u) (h : Met n r u first (bf r u first k) k) (hk : (bf r u first k).length ≤ k) : bf r u first k = Sq.order r u first ∧ Row n (Sq.order r u first) := by
  have h1 := h.kle
  have h2 := h.len
  have h3 := s.most
  have e := bf_order hk (by omega)
  refine ⟨e.symm, ?_⟩
  rw [e]
  exact (h.all hk).fullAny s
end Sq
namespace K1
open PySem L2 Sq
/-- the dict of the squares taken -/
def tk (F : List Nat) : List (Key × V) := F.map fun (x : Nat) => ((Sum.inl (x : Int) : Key), V.bl true)
theorem tk_snoc (F : List Nat) (x : Nat) : tk (F ++ [x]) = tk F ++ [(Sum.inl (x : Int), V.bl true)] := by unfold tk; rw [List.map_append]; rfl
theorem tk_len (F : List Nat) : (tk F).length = F.length := by simp [tk]
theorem tk_val : ∀ (F : List Nat) (y : Nat), valV (tk F) (Sum.inl (y : Int) : Key) = if y ∈ F then some (V.bl true) else none
  | [], y => rfl
  | x :: F, y => by
    show valV (((Sum.inl (x : Int) : Key), V.bl true) :: tk F) _ = _
    by_cases e : x = y
    · subst e; rw [valV_pos rfl, if_pos (by simp)]
    · rw [valV_neg (fun z => e (by have := Sum.inl.inj z; omega)), tk_val F y]
      simp [Ne.symm e]
def spNumb (CN : Addr) : Sp := fun vs H Q E => ∃ (a : Addr) (n : Nat) (r u : List Nat) (i : Int), vs = [.ref a, .int i] ∧ ShAt H a r u ∧ Sheet n r u ∧ (isSq n i = false → E (.ref CN) none H) ∧
  (∀ x : Nat, i = (x : Int) → x < n → Row n (order r u x) → ∀ (H' : Hp) (l : Addr), Same H H' → H l = none → H' l = some (.lst (nv (back (order r u x)))) → Q (.ref l) H')
section
variable {P : Program} {w : World} {K : PySem.W.Frag} {mg : Str → Option Value} {base : Heap}
abbrev nNb : List Str := ["sheet", "first", "found", "taken", "done", "row", "near"]
theorem scNb : FnScope nNb ["sheet", "first"] (defScope sNumbering) := ⟨rfl, rfl, rfl, by decide +kernel, rfl, by decide +kernel, by decide +kernel⟩
theorem ok_numb {f fn fb CN : Addr} {fd fdn fdb : FuncData} (T : Bi mg) (F : Fn K mg "numbering" sNumbering ["sheet", "first"] f fd) (FN : Fn K mg "need_square" sNeed ["sheet", "square"] fn fdn) (GN : FnOk P w K mg base (CX1 P w) 3 fn fdn ["sheet", "square"] (spNeed CN))
    (FB : Fn K mg "back_row" sBackRow ["row"] fb fdb) (GB : FnOk P w K mg base CX0 1 fb fdb ["row"] (spBackA K)) : FnOk P w K mg base (CX1 P w) 4 f fd ["sheet", "first"] (spNumb CN) := by
  refine F.F.ok1 scNb (fun vs H Q E h => ?_) (fun cdv A outer s H vs Q E hr h => ?_)
  · obtain ⟨a, n, r, u, i, rfl, _⟩ := h; rfl
  · obtain ⟨a, n, r, u, i, rfl, hsh, hS, k1, k2⟩ := h
    have hr1 : Room 1 _ := hr.mono (by decide)
    have hu := hu_of hr
    refine ⟨_, pss_cons (ps_expr (pe_call GN hr rfl FN.m FN.F.kp FN.b .nil (pass1 fun _ _ _ z => z) (pa_cons (pv 0) (pa_cons (pv 1) pa_nil))))
      (PSs.nox (pss_cons (ps_set (i := 2) scNb.nd rfl (Or.inl rfl) (pe_lst (pa_cons (pv 1) pa_nil)))
      (pss_cons (ps_set (i := 3) scNb.nd rfl (Or.inl rfl) (pe_disp (pps_cons (pv 1) pe_bl pps_nil) rfl rfl (by simp) (by decide)))
      (pss_cons (ps_set (i := 4) scNb.nd rfl (Or.inl rfl) pe_int)
      (pss_cons (ps_while PassesOwn.never (pt_cmpR op_lt (pv 4) (pe_callB call_len_seq (by rfl) T.len PySem.boot_len (pa_cons (pv 2) pa_nil)) (nomark _))
        (pss_cons (ps_for PassesOwn.never rfl (pi_tup (pv 0)) (pg_name (i := 5) scNb.nd rfl (Or.inl rfl))
          (pss_cons (ps_set (i := 6) scNb.nd rfl (Or.inl rfl) (pe_ix ix_tup (pv 5) (pe_ix ix_list (pv 2) (pv 4) (fun _ _ => rfl)) (fun _ _ => rfl)))
          (pss_one (ps_if (pt_cmp (pc_dnotin hu (pv 6) (pv 3)))
            (pss_cons (ps_dput hu (pv 3) (pv 6) pe_bl rfl)
            (pss_one (ps_expr (pe_bm PySem.F.plainAttrs_list PySem.F.slot_list_append PySem.F.type_list_append mt_append (pv 2) (pa_cons (pv 6) pa_nil))))) pss_nil))))
        (pss_one (ps_aug (i := 4) scNb.nd rfl (Or.inl rfl) pe_int ip_add))))
      (pss_one (ps_ret (pe_callTy call_list_of rfl T.list boot_list (pa_cons (pe_call GB hr1 rfl FB.m FB.F.kp FB.b .nil pass0 (pa_cons (pv 2) pa_nil)) pa_nil))))))))), ?_⟩
    have el := hS.row.len
    have hm := hS.most
    refine ⟨_, rfl, _, rfl, a, r, u, i, rfl, hsh, fun hi => ?_, fun hi => k1 (by rw [← el]; exact hi)⟩
    have hi := of_decide_eq_true hi
    rw [el] at hi
    obtain ⟨x, rfl⟩ := Int.eq_ofNat_of_zero_le hi.1
    have hx : x < n := by omega
    obtain ⟨p, q, h1, h2, h3⟩ := id hsh
    refine ⟨_, rfl, (by show 1 ≤ sizeLine; decide), fun lf hlf => ?_⟩
    intro dt hdt
    have nld : lf ≠ dt := fun e => by rw [← e, upd_same] at hdt; cases hdt
    have hdt0 : H dt = none := by rwa [upd_ne nld.symm] at hdt
    refine ⟨_, rfl, upd_same, [((Sum.inl (x : Int) : Key), V.bl true)], rfl, by show 1 ≤ 15; decide, ?_⟩
    have edp : mergeK [] [((Sum.inl (x : Int) : Key), V.bl true)] = tk [x] := by
      show putK [] (Sum.inl (x : Int) : Key) (V.bl true) = _
      rw [putK_new (kvs := []) _ rfl]; rfl
    rw [edp]
    refine while_by (fun σ H2 => ∃ (kk : Nat) (o5 o6 : Option V), σ = [some (.ref a), some (.int (x : Int)), some (.ref lf), some (.ref dt), some (.int (kk : Int)), o5, o6] ∧ Same H H2 ∧ H2 lf = some (.lst (nv (bf r u x kk))) ∧ H2 dt = some (.dK (tk (bf r u x kk))) ∧ Met n r u x (bf r u x kk) kk) (fun σ _ => mu 4 σ) ?_ ?_ ?_
    · refine ⟨0, _, _, rfl, same_upd (same_upd (same_upd (Same.refl H) hlf) hdt0) hdt0, by rw [upd_ne nld, upd_ne nld, upd_same]; rfl, upd_same, Met.start hx⟩
    · rintro σ H2 ⟨kk, o5, o6, rfl, s2, h2l, h2d, hM⟩
      refine ⟨_, rfl, _, rfl, lf, _, rfl, .inl (SqL.of h2l), _, _, rfl, rfl, _, rfl, ?_⟩
      rw [nv_len]
      refine ite2 (fun hlt => ?_) (fun hge => ?_)
      · have hlt : (kk : Int) < ((bf r u x kk).length : Int) := of_decide_eq_true hlt
        have hk : kk < (bf r u x kk).length := by omega
        obtain ⟨y, hy⟩ : ∃ y, (bf r u x kk)[kk]? = some y := ⟨_, List.getElem?_eq_getElem hk⟩
        have hyn : y < n := hM.lt _ (List.mem_of_getElem? hy)
        have hMl := hM.len
        generalize hMe : bf r u x kk = M at *
        refine ⟨_, rfl, a, rfl, ⟨_, SqT.of (s2 _ _ h1)⟩, ?_⟩
        refine for_tup (K := K) (a := a) (xs := [.ref p, .ref q]) (fun i σ H3 => ∃ (o5 o6 : Option V), σ = [some (.ref a), some (.int (x : Int)), some (.ref lf), some (.ref dt), some (.int (kk : Int)), o5, o6] ∧ Same H H3 ∧
          H3 lf = some (.lst (nv (([nx r y, nx u y].take i).foldl put M))) ∧ H3 dt = some (.dK (tk (([nx r y, nx u y].take i).foldl put M)))) ?_ ?_ ?_ ?_
        · exact ⟨_, _, rfl, s2, h2l, h2d⟩
        · rintro i σ H3 hi ⟨_, _, _, s3, _⟩
          exact SqT.of (s3 _ _ h1)
        · rintro i v σ H3 hi ⟨o5, o6, rfl, s3, h3l, h3d⟩
          obtain ⟨b, row, rfl, hrow, rrow, ey⟩ : ∃ b row, v = V.ref b ∧ H b = some (.tup (nv row)) ∧ Row n row ∧ [nx r y, nx u y][i]? = some (nx row y) := by
            match i, hi with
            | 0, hi => cases hi; exact ⟨p, r, rfl, h2, hS.row, rfl⟩
            | 1, hi => cases hi; exact ⟨q, u, rfl, h3, hS.col, rfl⟩
            | i + 2, hi => cases hi
          have hlen := foldl_put_len ([nx r y, nx u y].take i) M
          have htk : ([nx r y, nx u y].take i).length ≤ 2 := by rw [List.length_take]; exact Nat.min_le_right _ _
          have hfold : ([nx r y, nx u y].take (i + 1)).foldl put M = put (([nx r y, nx u y].take i).foldl put M) (nx row y) := by
            rw [List.take_add_one, ey, List.foldl_append]; rfl
          rw [hfold]
          have hget : (([nx r y, nx u y].take i).foldl put M)[kk]? = some y := by
            have : ∀ (l M' : List Nat), M'[kk]? = some y → (l.foldl put M')[kk]? = some y := by
              intro l
              induction l with
              | nil => intro M' h; exact h
              | cons a l ih => intro M' h; exact ih _ (put_get h)
            exact this _ _ hy
          generalize hM' : ([nx r y, nx u y].take i).foldl put M = M' at h3l h3d hlen hget
          refine ⟨_, rfl, _, rfl, _, rfl, lf, _, _, _, rfl, rfl, SqL.of h3l, atI_nat (nv_get hget), ?_⟩
          refine ⟨b, _, _, _, rfl, rfl, SqT.of (s3 _ _ hrow), atI_nat (nv_get (rrow.get hyn)), ?_⟩
          refine ⟨_, rfl, _, rfl, dt, _, rfl, DGet.k (k := (Sum.inl ((nx row y : Nat) : Int) : Key)) h3d, _, rfl, ?_⟩
          rw [tk_val]
          by_cases hm' : nx row y ∈ M'
          · rw [if_pos hm']
            refine iteF ?_
            refine ⟨_, _, rfl, s3, ?_, ?_⟩
            · unfold put; rw [if_pos hm']; exact h3l
            · unfold put; rw [if_pos hm']; exact h3d
          · rw [if_neg hm']
            refine iteT ?_
            refine ⟨_, rfl, _, rfl, dt, _, rfl, DPut.k (k := (Sum.inl ((nx row y : Nat) : Int) : Key)) h3d (by rw [tk_len]; exact small1000 (by omega)), ?_⟩
            have g1 : (upd H3 dt (.dK (putK (tk M') (Sum.inl ((nx row y : Nat) : Int) : Key) (V.bl true)))) lf = some (.lst (nv M')) := by rw [upd_ne nld]; exact h3l
            refine ⟨_, rfl, .inl ⟨rfl, _, SqL.of g1⟩, _, rfl, lf, _, _, rfl, rfl, g1, ?_, ?_⟩
            · rw [nv_len]; exact small1000 (by omega)
            refine ⟨_, _, rfl, same_upd (same_upd s3 hdt0) hlf, ?_, ?_⟩
            · unfold put; rw [if_neg hm', upd_same, nv_snoc]
            · unfold put; rw [if_neg hm', upd_ne nld.symm, upd_same, putK_new _ (by rw [tk_val, if_neg hm']), tk_snoc]
        · rintro σ H3 ⟨o5, o6, rfl, s3, h3l, h3d⟩
          have e : bf r u x (kk + 1) = put (put M (nx r y)) (nx u y) := by
            rw [← hMe]; exact bf_next (by rw [hMe]; exact hy)
          refine ⟨_, rfl, _, _, rfl, rfl, ⟨kk + 1, _, _, rfl, s3, by rw [e]; exact h3l, by rw [e]; exact h3d, by rw [e]; exact hM.step hS.row hS.col hy⟩, ?_⟩
          show (100 - ((kk : Int) + 1)).toNat < (100 - (kk : Int)).toNat
          omega
      · have hge : ¬ (kk : Int) < ((bf r u x kk).length : Int) := fun z => hge (decide_eq_true z)
        obtain ⟨e, ro⟩ := hM.order hS (by omega)
        rw [e] at h2l
        refine ⟨_, rfl, lf, n, _, rfl, .inl (SqL.of h2l), ro, hm, fun H3 t s3 ht => ?_⟩
        refine ⟨t, _, rfl, .inr (SqT.of ht), fun l hl => k2 x rfl hx ro _ l (same_upd (s2.trans s3) ((s2.trans s3).free hl)) ((s2.trans s3).free hl) upd_same⟩
    · rintro σ H Q Q' h ⟨v, e1, v', e2, p, ys, e3, sq, i, j, e4, e5, k, e6, q⟩
      exact ⟨v, e1, v', e2, p, ys, e3, sq, i, j, e4, e5, k, e6, h _ _ q⟩
end
end K1
namespace L2
open PySem PySem.Spec PyProof.Rows
theorem met_more (val : Nat → Int) (i : Nat) : ∀ k, (firstMet val (i + k)).length ≤ (firstMet val i).length + k
  | 0 => Nat.le_refl _
  | k + 1 => by
    have ih := met_more val i k
    rw [show i + (k + 1) = (i + k) + 1 from rfl, firstMet_succ]
    unfold step_dedup
    split
    · omega
    · rw [List.length_append]; simp; omega
theorem dcount_lt {r : List Nat} (h : ¬ r.Nodup) : dcount r < r.length := by
  have : ∃ i j, i < j ∧ ∃ (hj : j < r.length) (hi : i < r.length), r[i] = r[j] := by
    apply Classical.byContradiction
    intro hn
    refine h (List.pairwise_iff_getElem.mpr fun i j hi hj hij e => hn ⟨i, j, hij, hj, hi, e⟩)
  obtain ⟨i, j, hij, hj, hi, e⟩ := this
  unfold dcount
  have v : ∀ (k : Nat) (hk : k < r.length), (r.map fun (n : Nat) => (n : Int)).getD k 0 = (r[k] : Int) := fun k hk => by simp [List.getD_eq_getElem?_getD, hk]
  have hany : (firstMet (fun i => (r.map fun (n : Nat) => (n : Int)).getD i 0) j).any (· == (r[j] : Int)) = true := by
    rw [firstMet_any, List.any_eq_true]
    refine ⟨(r[i] : Int), List.mem_map.mpr ⟨i, List.mem_range.mpr hij, v i hi⟩, ?_⟩
    rw [e]; simp
  have hs : (firstMet (fun i => (r.map fun (n : Nat) => (n : Int)).getD i 0) (j + 1)).length ≤ j := by
    rw [firstMet_succ]
    unfold step_dedup
    rw [v j hj, if_pos hany]
    exact firstMet_length_le _ _
  have := met_more (fun i => (r.map fun (n : Nat) => (n : Int)).getD i 0) (j + 1) (r.length - (j + 1))
  rw [show j + 1 + (r.length - (j + 1)) = r.length by omega] at this
  omega
end L2
namespace K1
open PySem L2 Sq
inductive Thing (H : Hp) : V → Prop
  | non : Thing H .non
  | bl (b : Bool) : Thing H (.bl b)
  | int (i : Int) : Thing H (.int i)
  | str (s : Str) : Thing H (.str s)
  | lst {a : Addr} {xs : List V} : H a = some (.lst xs) → Thing H (.ref a)
  | tup {a : Addr} {xs : List V} : H a = some (.tup xs) → Thing H (.ref a)
theorem Thing.same {H H' : Hp} {x : V} (e : Same H H') (h : Thing H x) : Thing H' x := by
  cases h with
  | non => exact .non
  | bl b => exact .bl b
  | int i => exact .int i
  | str s => exact .str s
  | lst h => exact .lst (e _ _ h)
  | tup h => exact .tup (e _ _ h)
def sqV (n : Nat) : V → Bool
  | .int i => decide (0 ≤ i ∧ i < (n : Int))
  | _ => false
theorem kit_non_int (K : PySem.W.Frag) : PySem.W.kitOne K (.type "NoneType") (.type "int") = some false := by kernel_rfl
theorem kit_bool_int (K : PySem.W.Frag) : PySem.W.kitOne K (.type "bool") (.type "int") = some true := by kernel_rfl
theorem kit_bool_bool (K : PySem.W.Frag) : PySem.W.kitOne K (.type "bool") (.type "bool") = some true := by kernel_rfl
theorem kit_str_int (K : PySem.W.Frag) : PySem.W.kitOne K (.type "str") (.type "int") = some false := by kernel_rfl
theorem kit_list_int (K : PySem.W.Frag) : PySem.W.kitOne K (.type "list") (.type "int") = some false := by kernel_rfl
theorem kit_tup_int (K : PySem.W.Frag) : PySem.W.kitOne K (.type "tuple") (.type "int") = some false := by kernel_rfl
def whV : V → Bool
  | .int _ => true
  | _ => false
def spIsWhG : Sp := fun vs H Q _ => ∃ (x : V), vs = [x] ∧ Thing H x ∧ Q (.bl (whV x)) H
def spIsSqG : Sp := fun vs H Q _ => ∃ (x : V) (n : Nat), vs = [x, .int (n : Int)] ∧ Thing H x ∧ Q (.bl (sqV n x)) H
section
variable {P : Program} {w : World} {K : PySem.W.Frag} {mg : Str → Option Value} {base : Heap}
theorem scIsSqG : FnScope ["thing", "squares"] ["thing", "squares"] (defScope sIsSq) := ⟨rfl, rfl, rfl, by decide +kernel, rfl, by decide +kernel, by decide +kernel⟩
theorem scIsWhG : FnScope ["thing"] ["thing"] (defScope sIsWhole) := ⟨rfl, rfl, rfl, by decide +kernel, rfl, by decide +kernel, by decide +kernel⟩
theorem ok_isWhG {f : Addr} {fd : FuncData} (T : Bi mg) (F : Fn K mg "is_whole" sIsWhole ["thing"] f fd) : FnOk P w K mg base CX0 1 f fd ["thing"] spIsWhG := by
  refine F.F.ok scIsWhG (fun vs H Q E h => ?_) (fun cdv A outer s H vs Q E hr h => ?_)
  · obtain ⟨x, rfl, _⟩ := h; rfl
  · obtain ⟨x, rfl, hx, k⟩ := h
    refine ⟨_, pss_one (ps_ret (pe_and (pe_callB call_isinst (by rfl) T.isin boot_isin (pa_cons (pv 0) (pa_cons (pe_bltn (v := .ty "int") (by rfl) T.int boot_int rfl) pa_nil)))
      (pe_one (pe_not (pe_callB call_isinst (by rfl) T.isin boot_isin (pa_cons (pv 0) (pa_cons (pe_bltn (v := .ty "bool") (by rfl) T.bool boot_bool rfl) pa_nil))))))), ?_⟩
    cases hx with
    | int i =>
      refine ⟨_, rfl, _, _, _, _, rfl, .int i, kit_int_int K, _, rfl, ?_⟩
      refine iteT ?_
      exact ⟨_, rfl, _, _, _, _, rfl, .int i, kit_int_bool K, _, rfl, k⟩
    | bl b =>
      refine ⟨_, rfl, _, _, _, _, rfl, .bl b, kit_bool_int K, _, rfl, ?_⟩
      refine iteT ?_
      exact ⟨_, rfl, _, _, _, _, rfl, .bl b, kit_bool_bool K, _, rfl, k⟩
    | non =>
      refine ⟨_, rfl, _, _, _, _, rfl, .non, kit_non_int K, _, rfl, ?_⟩
      exact iteF k
    | str z =>
      refine ⟨_, rfl, _, _, _, _, rfl, .str z, kit_str_int K, _, rfl, ?_⟩
      exact iteF k
    | lst h =>
      refine ⟨_, rfl, _, _, _, _, rfl, .lst h, kit_list_int K, _, rfl, ?_⟩
      exact iteF k
    | tup h =>
      refine ⟨_, rfl, _, _, _, _, rfl, .tup h, kit_tup_int K, _, rfl, ?_⟩
      exact iteF k
theorem ok_isSqG {f fw : Addr} {fd fdw : FuncData} (T : Bi mg) (F : Fn K mg "is_square" sIsSq ["thing", "squares"] f fd) (FW : Fn K mg "is_whole" sIsWhole ["thing"] fw fdw) : FnOk P w K mg base CX0 2 f fd ["thing", "squares"] spIsSqG := by
  have GW : FnOk P w K mg base CX0 1 fw fdw ["thing"] spIsWhG := ok_isWhG T FW
  refine F.F.ok scIsSqG (fun vs H Q E h => ?_) (fun cdv A outer s H vs Q E hr h => ?_)
  · obtain ⟨x, n, rfl, _⟩ := h; rfl
  · obtain ⟨x, n, rfl, hx, k⟩ := h
    refine ⟨_, pss_one (ps_ret (pe_and (pe_call GW hr rfl FW.m FW.F.kp FW.b .nil pass0 (pa_cons (pv 0) pa_nil)) (pe_one (pe_chain op_le op_lt pe_int (pv 0) (pv 1))))), ?_⟩
    refine ⟨_, rfl, x, rfl, hx, _, rfl, ?_⟩
    cases x with
    | int i =>
      refine iteT ?_
      refine ⟨_, rfl, _, _, rfl, rfl, _, rfl, ?_⟩
      have k : Q (.bl (decide (0 ≤ i ∧ i < (n : Int)))) H := k
      refine ite2 (fun h => ?_) (fun h => ?_)
      · have h : 0 ≤ i := of_decide_eq_true h
        refine ⟨_, rfl, _, _, rfl, rfl, ?_⟩
        have e : decide (0 ≤ i ∧ i < (n : Int)) = decide (i < (n : Int)) := by simp [h]
        rw [e] at k; exact k
      · have h : ¬ 0 ≤ i := fun z => h (decide_eq_true z)
        have e : decide (0 ≤ i ∧ i < (n : Int)) = false := by simp [h]
        rw [e] at k; exact k
    | non => exact iteF k
    | bl b => exact iteF k
    | str z => exact iteF k
    | ref a => exact iteF k
    | _ => exact iteF k
end
end K1
namespace K1
open PySem L2 Sq
def RowV (K : PySem.W.Frag) (H : Hp) (p : Addr) (xs : List V) : Prop := SqL K H p xs ∨ SqT K H p xs
theorem RowV.same {K : PySem.W.Frag} {H H' : Hp} {p : Addr} {xs : List V} (e : Same H H') (h : RowV K H p xs) : RowV K H' p xs := h.imp e.seq (Same.tseq e)
/-- a row of a sheet of n squares -/
def Good (n : Nat) (xs : List V) : Prop := ∃ r, xs = nv r ∧ Row n r
theorem all_sq {n : Nat} : ∀ {xs : List V}, xs.all (sqV n) = true → ∃ r : List Nat, xs = nv r ∧ ∀ y ∈ r, y < n
  | [], _ => ⟨[], rfl, by simp⟩
  | x :: xs, h => by
    rw [List.all_cons, Bool.and_eq_true] at h
    obtain ⟨r, rfl, hr⟩ := all_sq h.2
    cases x with
    | int i =>
      have hi : 0 ≤ i ∧ i < (n : Int) := of_decide_eq_true h.1
      obtain ⟨m, rfl⟩ := Int.eq_ofNat_of_zero_le hi.1
      refine ⟨m :: r, rfl, fun y hy => ?_⟩
      rcases List.mem_cons.mp hy with e | e
      · subst e; omega
      · exact hr y e
    | _ => exact absurd h.1 (by simp [sqV])
theorem good_all {n : Nat} {xs : List V} (h : Good n xs) : xs.all (sqV n) = true := by
  obtain ⟨r, rfl, hr⟩ := h
  rw [List.all_eq_true]
  intro x hx
  obtain ⟨m, hm, rfl⟩ := List.mem_map.mp hx
  have := hr.lt m hm
  exact decide_eq_true (by omega)
def spEachG (K : PySem.W.Frag) : Sp := fun vs H Q _ => ∃ (p : Addr) (xs : List V), vs = [.ref p] ∧ RowV K H p xs ∧ (∀ x ∈ xs, Thing H x) ∧ xs.length ≤ 500 ∧ ∀ (H' : Hp) (b : Bool), Same H H' → (b = true ↔ Good xs.length xs) → Q (.bl b) H'
abbrev rLenG (K : PySem.W.Frag) : List V → Hp → VK → Prop := fun xs H Q => ∃ p ys, xs = [.ref p] ∧ (SqL K H p ys ∨ SqT K H p ys) ∧ Q (.int (ys.length : Int)) H
theorem compSqG {K : PySem.W.Frag} {Hc : Hp} {p : Addr} {xs : List V} {Q : VK} {σ : St} (h0 : σ[0]? = some (some (.ref p))) (hb : bst 1 [0] σ = [none, some (.ref p)]) (hp : RowV K Hc p xs) (ht : ∀ x ∈ xs, Thing Hc x) (hn : xs.length ≤ 500)
    (k : ∀ (H' : Hp) (d : Addr), Same Hc H' → H' d = some (.lst ((xs.map (sqV xs.length)).map V.bl)) → Q (.ref d) H') :
    tComp (fun σ H R => iList K (tVar 0) σ H R ∨ iTup K (tVar 0) σ H R) 1 [0] (gName 0) (tCall spIsSqG [] E0 (tCons (tVar 0) (tCons (tCB (rLenG K) (tCons (tVar 1) tNil)) tNil))) σ Hc Q := by
  have core : ∀ (J : It), (∀ H3, Same Hc H3 → (∀ i (hi : i < xs.length), J.go i H3 ∧ ∀ x H2, J.yld i H3 x H2 → H2 = H3 ∧ x = xs[i]) ∧ J.stop xs.length H3) → ∀ d, Hc d = none →
      ∃ W : Nat → Nat → St → Hp → Prop, (∃ m, W 0 m (bst 1 [0] σ) (upd Hc d (.lst []))) ∧ ∀ i m σ' H', W i m σ' H' →
        (J.stop i H' ∧ Q (.ref d) H') ∨ (J.go i H' ∧ ∀ x H2, J.yld i H' x H2 → gName 0 x σ' H2 fun σ3 H3 => tCall spIsSqG [] E0 (tCons (tVar 0) (tCons (tCB (rLenG K) (tCons (tVar 1) tNil)) tNil)) σ3 H3 fun y H4 => ∃ xs, H4 d = some (.lst xs) ∧ xs.length < sizeLine ∧ ∃ m', m' < m ∧ W (i + 1) m' σ3 (upd H4 d (.lst (xs ++ [y])))) := by
    intro J hJ d hd
    rw [hb]
    refine comp_by (Q := fun d H' => Q (.ref d) H') xs.length ((xs.map (sqV xs.length)).map V.bl) (by simp) (fun i σ H3 => ∃ o, σ = [o, some (.ref p)] ∧ Same Hc H3) ⟨_, rfl, same_upd (Same.refl _) hd⟩ ?_ ?_
    · rintro i σ H3 hi ⟨o, rfl, s3⟩ hd3
      obtain ⟨g1, g2⟩ := (hJ H3 s3).1 i hi
      refine ⟨g1, fun x H4 hy => ?_⟩
      obtain ⟨e1, e2⟩ := g2 x H4 hy
      subst e1 e2
      refine ⟨_, rfl, _, rfl, p, _, rfl, hp.same s3, xs[i], xs.length, rfl, (ht _ (List.getElem_mem hi)).same s3, ?_⟩
      exact cpost hi (by omega) hd3 (by simp [hi]) ⟨_, rfl, same_upd s3 hd⟩
    · rintro σ H3 ⟨o, rfl, s3⟩ hd3
      exact ⟨(hJ H3 s3).2, k H3 d s3 hd3⟩
  rcases id hp with h | h
  · refine .inl ⟨_, h0, p, rfl, ⟨_, h⟩, core _ fun H3 s3 => ⟨fun i hi => ⟨⟨_, _, s3.seq h, List.getElem?_eq_getElem hi⟩, fun x H2 ⟨e, hy⟩ => ⟨e, ?_⟩⟩, ⟨_, s3.seq h, Nat.le_refl _⟩⟩⟩
    have := hy _ (s3.seq h)
    rw [List.getElem?_eq_getElem hi] at this
    exact (Option.some.inj this).symm
  · refine .inr ⟨_, h0, p, rfl, ⟨_, h⟩, core _ fun H3 s3 => ⟨fun i hi => ⟨⟨_, _, Same.tseq s3 h, List.getElem?_eq_getElem hi⟩, fun x H2 ⟨e, hy⟩ => ⟨e, ?_⟩⟩, ⟨_, Same.tseq s3 h, Nat.le_refl _⟩⟩⟩
    have := hy _ (Same.tseq s3 h)
    rw [List.getElem?_eq_getElem hi] at this
    exact (Option.some.inj this).symm
section
variable {P : Program} {w : World} {K : PySem.W.Frag} {mg : Str → Option Value} {base : Heap}
theorem scEach : FnScope ["row"] ["row"] (defScope sEach) := ⟨rfl, rfl, rfl, by decide +kernel, rfl, by decide +kernel, by decide +kernel⟩
theorem ndT : (["thing", "row"] : List Str).Nodup := by decide +kernel
theorem ok_eachG {f fs : Addr} {fd fds : FuncData} (T : Bi mg) (F : Fn K mg "has_each_once" sEach ["row"] f fd) (FS : Fn K mg "is_square" sIsSq ["thing", "squares"] fs fds) (GS : FnOk P w K mg base CX0 2 fs fds ["thing", "squares"] spIsSqG) :
    FnOk P w K mg base CX0 3 f fd ["row"] (spEachG K) := by
  refine F.F.ok scEach (fun vs H Q E h => ?_) (fun cdv A outer s H vs Q E hr h => ?_)
  · obtain ⟨p, xs, rfl, _⟩ := h; rfl
  · obtain ⟨p, xs, rfl, hp, ht, hn, k⟩ := h
    refine ⟨_, pss_cons (ps_if (pt_not (pt_val (pe_callB (call_all_bools rfl) (by rfl) T.all boot_all (pa_cons
          (pe_comp (N := ["row"]) (names := (defScope sEach).names) (N' := ["thing", "row"]) (k := 1) (pull := [0]) (te := tCall spIsSqG [] E0 (tCons (tVar 0) (tCons (tCB (rLenG K) (tCons (tVar 1) tNil)) tNil))) rfl
            ⟨by rfl, by decide +kernel, by decide +kernel, by rfl, by decide +kernel, by decide +kernel⟩ rfl rfl (PI.or (pi_list (pv 0)) (pi_tup (pv 0))) (fun _ _ _ _ _ _ => pg_name (i := 0) ndT rfl (Or.inl rfl))
            (fun _ _ _ _ _ _ => pe_call GS hr rfl FS.m FS.F.kp FS.b .nil pass0 (pa_cons (pv 0) (pa_cons (pe_callB call_len_seq (by rfl) T.len PySem.boot_len (pa_cons (pv 1) pa_nil)) pa_nil)))) pa_nil)))) (pss_one (ps_ret pe_bl)) pss_nil)
      (pss_one (ps_ret (pe_cmpR op_eq (pe_callB call_len_set' (by rfl) T.len PySem.boot_len (pa_cons (pe_callTy (call_set rfl) (by rfl) T.set boot_set (pa_cons (pv 0) pa_nil)) pa_nil)) (pe_callB call_len_seq (by rfl) T.len PySem.boot_len (pa_cons (pv 0) pa_nil)) (nomark _)))), ?_⟩
    dsimp only [tNext, tSeq, tIfS, tNot, tB, tCB, tCons]
    refine compSqG rfl rfl hp ht hn fun H3 d s3 hd3 => ?_
    refine ⟨d, _, rfl, SqL.of hd3, _, rfl, ?_⟩
    have eall : ((xs.map (sqV xs.length)).all id) = xs.all (sqV xs.length) := by rw [List.all_map]; rfl
    rw [eall]
    cases ha : xs.all (sqV xs.length) with
    | false =>
      refine iteT ?_
      refine k H3 false s3 ⟨fun z => (by cases z), fun z => ?_⟩
      rw [good_all z] at ha; cases ha
    | true =>
      refine iteF ?_
      obtain ⟨r, er, hr'⟩ := all_sq ha
      have hrl : r.length = xs.length := by rw [er, nv_len]
      have hp3 : RowV K H3 p (nv r) := by rw [← er]; exact hp.same s3
      refine ⟨_, rfl, p, r, rfl, hp3, by omega, fun d2 S hd2 => ?_⟩
      have s4 : Same H (upd H3 d2 (.set S (dcount r))) := same_upd s3 (s3.free hd2)
      refine ⟨d2, S, _, rfl, upd_same, _, rfl, p, _, rfl, hp.same s4, rfl, ?_⟩
      refine k _ _ s4 ?_
      rw [decide_eq_true_iff]
      constructor
      · intro z
        have z := V.int.inj z
        have hnd : r.Nodup := Classical.byContradiction fun hnn => by have := dcount_lt hnn; omega
        exact ⟨r, er, ⟨hrl, hnd, hr'⟩⟩
      · rintro ⟨r', e', hR⟩
        have : r' = r := nv_inj (e'.symm.trans er)
        subst this
        rw [dcount_nd hR.nd, hrl]
end
end K1
namespace K1
open PySem L2 Sq
theorem nd_depth : ∀ xs : List Nat, PyData.depthAll (nd xs) = 0
  | [] => rfl
  | x :: xs => by show max 0 (PyData.depthAll (nd xs)) = 0; rw [nd_depth xs]; rfl
theorem sd_depth (r u : List Nat) : (sd r u).depth ≤ 64 := by
  show max (PyData.depthAll (nd r) + 1) (max (PyData.depthAll (nd u) + 1) 0) + 1 ≤ 64
  rw [nd_depth, nd_depth]; decide
theorem unitsD {A : Around} {k : Nat} (hr : Room k A) {d e : PyData} (h : d.depth ≤ 64) : A.units + min d.depth e.depth < cLine :=
  Nat.lt_of_le_of_lt (Nat.add_le_add_left (Nat.le_trans (Nat.min_le_left _ _) h) _) hr.units
end K1
namespace K1
open PySem L2 Sq
theorem Good.len {n : Nat} {xs : List V} (h : Good n xs) : xs.length = n := by obtain ⟨r, rfl, hr⟩ := h; rw [nv_len, hr.len]
/-- tuple(xs), as it is read -/
abbrev rTupOf' (K : PySem.W.Frag) : List V → Hp → VK → Prop := fun xs H Q => ∃ p ys, xs = [.ref p] ∧ ((SqL K H p ys ∧ ∀ l, H l = none → Q (.ref l) (upd H l (.tup ys))) ∨ (SqT K H p ys ∧ Q (.ref p) H))
def spRenRow (K : PySem.W.Frag) : Sp := fun vs H Q _ => ∃ (p q : Addr) (n : Nat) (r f : List Nat), vs = [.ref p, .ref q] ∧ RowAt K H p r ∧ RowAt K H q f ∧ Row n r ∧ Row n f ∧ n ≤ 36 ∧ ∀ (H' : Hp) (l : Addr), Same H H' → H' l = some (.tup (nv (ren r f))) → Q (.ref l) H'
def spIsRenG (K : PySem.W.Frag) : Sp := fun vs H Q _ => ∃ (a q : Addr) (n : Nat) (r u : List Nat) (xs : List V), vs = [.ref a, .ref q] ∧ ShAt H a r u ∧ r.length = n ∧ RowV K H q xs ∧ (∀ x ∈ xs, Thing H x) ∧ xs.length ≤ 500 ∧ ∀ (H' : Hp) (b : Bool), Same H H' → (b = true ↔ Good n xs) → Q (.bl b) H'
def spRenG (K : PySem.W.Frag) (CR : Addr) : Sp := fun vs H Q E => ∃ (a q : Addr) (n : Nat) (r u : List Nat) (xs : List V), vs = [.ref a, .ref q] ∧ ShAt H a r u ∧ Row n r ∧ Row n u ∧ n ≤ 36 ∧ RowV K H q xs ∧ (∀ x ∈ xs, Thing H x) ∧ xs.length ≤ 500 ∧
  (¬ Good n xs → ∀ H' : Hp, Same H H' → E (.ref CR) none H') ∧ (∀ f, xs = nv f → Row n f → ∀ (H' : Hp) (b : Addr), Same H H' → ShAt H' b (ren r f) (ren u f) → Q (.ref b) H')
section
variable {P : Program} {w : World} {K : PySem.W.Frag} {mg : Str → Option Value} {base : Heap}
abbrev nRR : List Str := ["row", "f", "olds"]
theorem scRR : FnScope nRR ["row", "f"] (defScope sRenumberedRow) := ⟨rfl, rfl, rfl, by decide +kernel, rfl, by decide +kernel, by decide +kernel⟩
theorem ndRR : (["old", "f", "row"] : List Str).Nodup := by decide +kernel
theorem ok_renRow {f fb : Addr} {fd fdb : FuncData} (T : Bi mg) (F : Fn K mg "renumbered_row" sRenumberedRow ["row", "f"] f fd) (FB : Fn K mg "back_row" sBackRow ["row"] fb fdb) (GB : FnOk P w K mg base CX0 1 fb fdb ["row"] (spBackA K)) :
    FnOk P w K mg base CX0 2 f fd ["row", "f"] (spRenRow K) := by
  refine F.F.ok scRR (fun vs H Q E h => ?_) (fun cdv A outer s H vs Q E hr h => ?_)
  · obtain ⟨p, q, n, r, f, rfl, _⟩ := h; rfl
  · obtain ⟨p, q, n, r, f, rfl, hp, hq, rr, rf, hn, k⟩ := h
    refine ⟨_, pss_cons (ps_set (i := 2) scRR.nd rfl (Or.inl rfl) (pe_call GB hr rfl FB.m FB.F.kp FB.b .nil pass0 (pa_cons (pv 1) pa_nil)))
      (pss_one (ps_ret (pe_callTy call_tuple_of rfl T.tuple boot_tuple (pa_cons
        (pe_comp (N := nRR) (names := (defScope sRenumberedRow).names) (N' := ["old", "f", "row"]) (k := 1) (pull := [1, 0]) (te := tOp (rIx K) (tVar 1) (tOp (rIx K) (tVar 2) (tVar 0))) rfl
          ⟨by rfl, by decide +kernel, by decide +kernel, by rfl, by decide +kernel, by decide +kernel⟩ rfl rfl (pi_tup (pv 2)) (fun _ _ _ _ _ _ => pg_name (i := 0) ndRR rfl (Or.inl rfl)) (fun _ _ _ _ _ _ => pe_ix ix_seq (pv 1) (pe_ix ix_seq (pv 2) (pv 0) (fun _ _ => rfl)) (fun _ _ => rfl))) pa_nil)))), ?_⟩
    refine ⟨_, rfl, q, n, f, rfl, hq, rf, hn, fun H1 l1 s1 hl1 => ?_⟩
    refine ⟨_, rfl, l1, rfl, ⟨_, SqT.of hl1⟩, fun d hd => ?_⟩
    show ∃ W : Nat → Nat → St → Hp → Prop, (∃ m, W 0 m [none, some (.ref q), some (.ref p)] (upd H1 d (.lst []))) ∧ _
    have hb := rf.back
    refine comp_by (Q := fun d H' => rTupOf' K [.ref d] H' Q) n (nv (ren r f)) (by rw [nv_len, ren_len, rf.len]) (fun i σ H3 => ∃ o, σ = [o, some (.ref q), some (.ref p)] ∧ Same H1 H3) ⟨_, rfl, same_upd (Same.refl _) hd⟩ ?_ ?_
    · rintro i σ H3 hi ⟨o, rfl, s3⟩ hd3
      have hl3 := SqT.of (K := K) (s3 _ _ hl1)
      refine ⟨⟨_, _, hl3, nv_get (hb.get hi)⟩, fun y H4 ⟨e, hy⟩ => ?_⟩
      subst e
      have hy := hy _ hl3
      rw [nv_get (hb.get hi)] at hy
      cases hy
      refine ⟨_, rfl, _, rfl, _, rfl, rowIx (hp.same (s1.trans s3)) rr (hb.nlt hi) ?_⟩
      refine rowIx (hq.same (s1.trans s3)) rf (rr.nlt (hb.nlt hi)) ?_
      refine cpost hi (by omega) hd3 (nv_get ?_) ⟨_, rfl, same_upd s3 hd⟩
      rw [(ren_row rr rf).get hi, ren_nx rf hi]
    · rintro σ H3 ⟨o, rfl, s3⟩ hd3
      refine ⟨⟨_, SqT.of (s3 _ _ hl1), by rw [nv_len, hb.len]; exact Nat.le_refl _⟩, d, _, rfl, .inl ⟨SqL.of hd3, fun l hl => k _ l ?_ upd_same⟩⟩
      exact same_upd (s1.trans s3) ((s1.trans s3).free hl)
theorem scIR : FnScope ["sheet", "f"] ["sheet", "f"] (defScope sIsRenumbering) := ⟨rfl, rfl, rfl, by decide +kernel, rfl, by decide +kernel, by decide +kernel⟩
theorem ok_isRenG {f fz fe : Addr} {fd fdz fde : FuncData} (T : Bi mg) (F : Fn K mg "is_renumbering" sIsRenumbering ["sheet", "f"] f fd) (FZ : Fn K mg "size" sSize ["sheet"] fz fdz) (GZ : FnOk P w K mg base CX0 1 fz fdz ["sheet"] spSize)
    (FE : Fn K mg "has_each_once" sEach ["row"] fe fde) (GE : FnOk P w K mg base CX0 3 fe fde ["row"] (spEachG K)) : FnOk P w K mg base CX0 4 f fd ["sheet", "f"] (spIsRenG K) := by
  refine F.F.ok scIR (fun vs H Q E h => ?_) (fun cdv A outer s H vs Q E hr h => ?_)
  · obtain ⟨a, q, n, r, u, xs, rfl, _⟩ := h; rfl
  · obtain ⟨a, q, n, r, u, xs, rfl, hsh, lr, hq, ht, hl, k⟩ := h
    have hr1 : Room 1 _ := hr.mono (by decide)
    refine ⟨_, pss_one (ps_ret (pe_and (pe_cmpR op_eq (pe_callB call_len_seq rfl T.len PySem.boot_len (pa_cons (pv 1) pa_nil)) (pe_call GZ hr1 rfl FZ.m FZ.F.kp FZ.b .nil pass0 (pa_cons (pv 0) pa_nil)) (nomark _))
      (pe_one (pe_call GE hr rfl FE.m FE.F.kp FE.b .nil pass0 (pa_cons (pv 1) pa_nil))))), ?_⟩
    refine ⟨_, rfl, q, _, rfl, hq, _, rfl, a, r, u, rfl, hsh, rfl, _, rfl, ?_⟩
    by_cases e : xs.length = n
    · rw [decide_eq_true (by rw [lr, e])]
      refine iteT ?_
      refine ⟨_, rfl, q, xs, rfl, hq, ht, hl, fun H' b s1 hb => k H' b s1 ?_⟩
      rw [e] at hb; exact hb
    · rw [decide_eq_false (by intro z; have := V.int.inj z; exact e (by omega))]
      refine iteF ?_
      exact k H false (Same.refl _) ⟨fun z => (by cases z), fun z => absurd z.len e⟩
theorem scRen : FnScope ["sheet", "f"] ["sheet", "f"] (defScope sRenumbered) := ⟨rfl, rfl, rfl, by decide +kernel, rfl, by decide +kernel, by decide +kernel⟩
theorem ok_renG {f fi fr CR : Addr} {fd fdi fdr : FuncData} (hC : ExCls K CR) (hm : mg "NoRenumbering" = some (.ref CR)) (F : Fn K mg "renumbered" sRenumbered ["sheet", "f"] f fd) (FI : Fn K mg "is_renumbering" sIsRenumbering ["sheet", "f"] fi fdi) (GI : FnOk P w K mg base CX0 4 fi fdi ["sheet", "f"] (spIsRenG K))
    (FR : Fn K mg "renumbered_row" sRenumberedRow ["row", "f"] fr fdr) (GR : FnOk P w K mg base CX0 2 fr fdr ["row", "f"] (spRenRow K)) : FnOk P w K mg base (CX1 P w) 5 f fd ["sheet", "f"] (spRenG K CR) := by
  refine F.F.ok1 scRen (fun vs H Q E h => ?_) (fun cdv A outer s H vs Q E hr h => ?_)
  · obtain ⟨a, q, n, r, u, xs, rfl, _⟩ := h; rfl
  · obtain ⟨a, q, n, r, u, xs, rfl, hsh, rr, ru, hn, hq, ht, hl, k1, k2⟩ := h
    have hr2 : Room 2 _ := hr.mono (by decide)
    refine ⟨_, pss_cons (ps_if (pt_not (pt_val (pe_call GI hr rfl FI.m FI.F.kp FI.b .nil pass0 (pa_cons (pv 0) (pa_cons (pv 1) pa_nil))))) (pss_one (ps_raise rfl hC rfl hm throw1 (pa_cons pe_str pa_nil))) pss_nil)
      (pss_one (ps_ret (pe_tup (pa_cons (pe_call GR hr2 rfl FR.m FR.F.kp FR.b .nil pass0 (pa_cons (pe_ix ix_tup (pv 0) pe_int (fun _ _ => rfl)) (pa_cons (pv 1) pa_nil)))
        (pa_cons (pe_call GR hr2 rfl FR.m FR.F.kp FR.b .nil pass0 (pa_cons (pe_ix ix_tup (pv 0) pe_int (fun _ _ => rfl)) (pa_cons (pv 1) pa_nil))) pa_nil))))), ?_⟩
    refine ⟨_, rfl, _, rfl, a, q, n, r, u, xs, rfl, hsh, rr.len, hq, ht, hl, fun H1 b s1 hb => ?_⟩
    refine ⟨_, rfl, ?_⟩
    cases b with
    | false =>
      refine iteT ?_
      exact ⟨by show 1 ≤ sizeLine; decide, k1 (fun z => by have := hb.mpr z; cases this) H1 s1⟩
    | true =>
      refine iteF ?_
      obtain ⟨g, rfl, rf⟩ := hb.mp rfl
      have hq' : RowAt K H q g := hq
      obtain ⟨p1, p2, h1, h2, h3⟩ := hsh.same s1
      refine ⟨_, rfl, a, _, 0, _, rfl, rfl, SqT.of h1, atI_nat (j := 0) rfl, _, rfl, p1, q, n, r, g, rfl, .inr (SqT.of h2), hq'.same s1, rr, rf, hn, fun H2 l1 s2 e1 => ?_⟩
      refine ⟨_, rfl, a, _, 1, _, rfl, rfl, SqT.of (s2 _ _ h1), atI_nat (j := 1) rfl, _, rfl, p2, q, n, u, g, rfl, .inr (SqT.of (s2 _ _ h3)), hq'.same (s1.trans s2), ru, rf, hn, fun H3 l2 s3 e2 => ?_⟩
      refine ⟨by show 2 ≤ sizeLine; decide, fun b hb => k2 g rfl rf _ b (same_upd (s1.trans (s2.trans s3)) ((s1.trans (s2.trans s3)).free hb)) ⟨l1, l2, upd_same, ?_, ?_⟩⟩
      · have := s3 _ _ e1
        rw [upd_ne (ne_of_none this hb)]; exact this
      · rw [upd_ne (ne_of_none e2 hb)]; exact e2
end
end K1
namespace L2
open PySem PySem.Spec PyProof.Rows
def XW (n : Nat) (Pv : Nat → List V → St → Hp → Prop) (d : Addr) (i m : Nat) (σ : St) (H : Hp) : Prop := m = n - i ∧ i ≤ n ∧ ∃ xs, Pv i xs σ H ∧ H d = some (.lst xs)
def XPost (n : Nat) (Pv : Nat → List V → St → Hp → Prop) (d : Addr) (i : Nat) (σ3 : St) (y : V) (H4 : Hp) : Prop := ∃ xs, H4 d = some (.lst xs) ∧ xs.length < sizeLine ∧ ∃ m', m' < n - i ∧ XW n Pv d (i + 1) m' σ3 (upd H4 d (.lst (xs ++ [y])))
theorem xpost {n : Nat} {Pv : Nat → List V → St → Hp → Prop} {d : Addr} {i : Nat} {σ3 : St} {y : V} {H4 : Hp} {xs : List V} (hi : i < n) (hd : H4 d = some (.lst xs)) (hl : xs.length ≤ 1000) (hp : Pv (i + 1) (xs ++ [y]) σ3 (upd H4 d (.lst (xs ++ [y])))) : XPost n Pv d i σ3 y H4 :=
  ⟨xs, hd, small1000 hl, n - (i + 1), by omega, rfl, hi, _, hp, upd_same⟩
theorem comp_ex {J : It} {g : TG} {te : TE} {d : Addr} {σ0 : St} {H1 : Hp} {Q : Addr → Hp → Prop} (n : Nat) (Pv : Nat → List V → St → Hp → Prop) (h0 : Pv 0 [] σ0 (upd H1 d (.lst [])))
    (go : ∀ i xs σ H, i < n → Pv i xs σ H → H d = some (.lst xs) → J.go i H ∧ ∀ x H2, J.yld i H x H2 → g x σ H2 fun σ3 H3 => te σ3 H3 fun y H4 => XPost n Pv d i σ3 y H4)
    (stop : ∀ xs σ H, Pv n xs σ H → H d = some (.lst xs) → J.stop n H ∧ Q d H) :
    ∃ W : Nat → Nat → St → Hp → Prop, (∃ m, W 0 m σ0 (upd H1 d (.lst []))) ∧ ∀ i m σ' H', W i m σ' H' →
      (J.stop i H' ∧ Q d H') ∨ (J.go i H' ∧ ∀ x H2, J.yld i H' x H2 → g x σ' H2 fun σ3 H3 => te σ3 H3 fun y H4 => ∃ xs, H4 d = some (.lst xs) ∧ xs.length < sizeLine ∧ ∃ m', m' < m ∧ W (i + 1) m' σ3 (upd H4 d (.lst (xs ++ [y])))) := by
  refine ⟨XW n Pv d, ⟨n, by simp, Nat.zero_le _, [], h0, upd_same⟩, ?_⟩
  rintro i m σ H ⟨rfl, hi, xs, p, hd⟩
  by_cases hlt : i < n
  · exact .inr (go i xs σ H hlt p hd)
  · have : i = n := by omega
    subst this
    exact .inl (stop xs σ H p hd)
end L2
namespace L2
open PySem PySem.Spec PyProof.Rows PySem.W
variable (key : Nat → Nat)
end L2
namespace L2
open PySem PySem.Spec PyProof.Rows PySem.W
variable {lt : Nat → Nat → Bool} {n : Nat}
end L2
namespace L2
open PySem PySem.Spec PyProof.Rows PySem.W
theorem ints_get {vs : List Value} {ns : List Int} (h : IntsAre vs ns) (i : Nat) : (vs[i]? = none ∧ ns[i]? = none) ∨ ∃ a t, vs[i]? = some (.int a t) ∧ ns[i]? = some a := by
  induction h generalizing i with
  | nil => exact .inl ⟨by simp, by simp⟩
  | cons a t _ ih =>
    cases i with
    | zero => exact .inr ⟨a, t, by simp, by simp⟩
    | succ i => simpa using ih i
theorem drop_of {α : Type} {l : List α} {i : Nat} {a : α} (h : l[i]? = some a) : l.drop i = a :: l.drop (i + 1) := by
  obtain ⟨hi, e⟩ := List.getElem?_eq_some_iff.mp h
  rw [List.drop_eq_getElem_cons hi, e]
end L2
namespace L2
open PySem PySem.Spec PyProof.Rows PySem.W
end L2
namespace L2
open PySem PySem.Spec PyProof.Rows PySem.W
section
variable {X : Cx}
theorem vals_refs : ∀ {as : List Addr} {us : List Value}, Vals (as.map V.ref) us → us = as.map Value.ref
  | [], _, h => by cases h; rfl
  | a :: as, _, h => by
    cases h with
    | cons r t =>
      cases (show _ = Value.ref a from r)
      rw [vals_refs t]; rfl
end
end L2
namespace L2
open PySem PySem.Spec PyProof.Rows
section
variable {X : Cx}
theorem boot_min : bootBuiltins "min" = some (.builtin "min") := by decide +kernel
end
end L2
namespace L2
open PySem PySem.Spec PyProof.Rows PySem.W
def CmpAt (op : CmpOp) (A : Around) (s : Shared) (y x : Value) (b : Bool) : Prop :=
  ∀ (prog : Program) (w : World) (E : Value → Shared → Prop) (Q : Value → Shared → Prop), Q (.bool b) s → wpAny (model prog w) A (richCompare op y x) Q E s
theorem tuple_ltAt (l b : Addr) (xs ys : Array Value) (n n2 : Nat) (dd dd2 : Option Addr) (sl sl2 : Array (Option Value)) (k : Nat) (c : Bool) :
    Meets (Builtin.«tuple.__lt__» ⟨[.ref l, .ref b], []⟩)
      (fun A R s => s.heap.get? l = some { cls := .type "tuple", dict := dd, data := .seq xs n, slots := sl } ∧ s.heap.get? b = some { cls := .type "tuple", dict := dd2, data := .seq ys n2, slots := sl2 } ∧
        xs.size = ys.size ∧ k ≤ xs.size ∧ (∀ j (h1 : j < xs.size) (h2 : j < ys.size), j < k → SeqAt.EqAt A.in1 s xs[j] ys[j] true) ∧
        (∀ (h1 : k < xs.size) (h2 : k < ys.size), SeqAt.EqAt A.in1 s xs[k] ys[k] false ∧ CmpAt .Lt A.in1 s xs[k] ys[k] c) ∧ (k = xs.size → c = false) ∧
        R (.ok (.ret (.bool c))) s) :=
  .of_wp fun prog w A R s h => by
    obtain ⟨hp, g, d, tk, os⟩ := s; obtain ⟨hl, hb, hsz, hle, he, hk, hc, hR⟩ := h
    have f2 := AutoSeq1.sub_tuple_tuple
    have hZ : (xs.toList.zip ys.toList).length = xs.size := by simp; omega
    wp_walk using wpAny_loadPart' hl, wpAny_loadPart' hb, wpAny_forIn_list _ (fun rest b s' => b.1 = none ∧ s' = ⟨hp, g, d, tk, os⟩ ∧ ∃ i, i ≤ k ∧ rest = (xs.toList.zip ys.toList).drop i) _
    case turn =>
      rintro ⟨y, x⟩ rest b s' ⟨hb', rfl, i, hik, hz⟩
      have hlt : i < (xs.toList.zip ys.toList).length := by
        rcases Nat.lt_or_ge i (xs.toList.zip ys.toList).length with h' | h'
        · exact h'
        · rw [List.drop_of_length_le h'] at hz; cases hz
      have h1 : i < xs.size := by omega
      have h2 : i < ys.size := by omega
      rw [List.drop_eq_getElem_cons hlt] at hz
      injection hz with hyx hrest
      have hy : y = xs[i] := by have := congrArg Prod.fst hyx; simpa using this
      have hx : x = ys[i] := by have := congrArg Prod.snd hyx; simpa using this
      subst hy hx
      rcases Nat.lt_or_ge i k with hlk | hge
      · refine wpAny_bind (he i h1 h2 hlk prog w _ _ ?_)
        wp_walk
        exact ⟨rfl, rfl, i + 1, hlk, hrest⟩
      · have e : i = k := by omega
        subst e
        obtain ⟨q1, q2⟩ := hk h1 h2
        refine wpAny_bind (q1 prog w _ _ ?_)
        rw [if_pos (show (!false) = true from rfl)]
        dsimp only
        refine wpAny_bind (wpAny_rule ?_)
        refine wpAny_bind (q2 prog w _ _ ?_)
        refine wpAny_bind (wpAny_pure ?_)
        refine wpAny_pure ?_
        exact wpAny_pure ⟨_, rfl, hR⟩
    case fin =>
      rintro ⟨b1, b2⟩ s' ⟨hb', rfl, i, hik, hz⟩
      simp only at hb'
      subst hb'
      have hge : xs.size ≤ i := by
        rcases Nat.lt_or_ge i (xs.toList.zip ys.toList).length with h' | h'
        · rw [List.drop_eq_getElem_cons h'] at hz; cases hz
        · exact hZ ▸ h'
      have ec := hc (by omega)
      subst ec
      wp_walk
      exact ⟨_, rfl, by simpa [Builtin.Tuple.tupleCompareSizes, hsz] using hR⟩
    case h =>
      exact ⟨rfl, rfl, 0, Nat.zero_le _, rfl⟩
theorem cmp_lt_int (A : Around) (s : Shared) (a b : Int) (t u : Tok) : CmpAt .Lt A s (.int a t) (.int b u) (decide (a < b)) := fun prog w E Q h =>
  richCompare_gives (op := .Lt) (typeIs_int s _ t) (typeIs_int s _ u) PySem.F.slot_int_lt PySem.F.entry_int_lt (PySem.F.args_int_lt_2 _ _) (gives_int_lt _ _ t u) (fun x => nomatch x) h
end L2
namespace L2
open PySem PySem.Spec PyProof.Rows PySem.W
theorem readsAll_len {h : Heap} : ∀ {vs : List Value} {xs : List PyData} {as : List Addr}, ReadsAll h vs xs as → vs.length = xs.length
  | _, _, _, .nil => rfl
  | _, _, _, .cons _ t => by rw [List.length_cons, List.length_cons, readsAll_len t]
theorem readsAll_nth {h : Heap} : ∀ {vs : List Value} {xs : List PyData} {as : List Addr}, ReadsAll h vs xs as → ∀ (j : Nat) (h1 : j < vs.length), ∃ x bs, xs[j]? = some x ∧ Reads h vs[j] x bs
  | _, _, _, .nil, j, h1 => absurd h1 (Nat.not_lt_zero _)
  | _, _, _, .cons r t, 0, h1 => ⟨_, _, rfl, r⟩
  | _, _, _, .cons r t, j + 1, h1 => by
    obtain ⟨x, bs, e, q⟩ := readsAll_nth t j (Nat.lt_of_succ_lt_succ h1)
    exact ⟨x, bs, by simpa using e, by simpa using q⟩
/-- the first place where two rows part decides -/
def lexN (e : Bool) : List Nat → List Nat → Bool
  | a :: r, b :: q => if a = b then lexN e r q else decide (a < b)
  | _, _ => e
theorem first_off (e : Bool) : ∀ r q : List Nat, r.length = q.length → ∃ k, k ≤ r.length ∧ (∀ j, j < k → r[j]? = q[j]?) ∧ (∀ a b, r[k]? = some a → q[k]? = some b → a ≠ b ∧ lexN e r q = decide (a < b)) ∧ (k = r.length → lexN e r q = e)
  | [], [], _ => ⟨0, Nat.le_refl _, fun j h => absurd h (Nat.not_lt_zero _), fun a b h => by simp at h, fun _ => rfl⟩
  | [], _ :: _, h => by simp at h
  | _ :: _, [], h => by simp at h
  | a :: r, b :: q, h => by
    by_cases c : a = b
    · obtain ⟨k, h1, h2, h3, h4⟩ := first_off e r q (by simpa using h)
      have el : lexN e (a :: r) (b :: q) = lexN e r q := if_pos c
      refine ⟨k + 1, by simpa using h1, fun j hj => ?_, fun x y hx hy => ?_, fun hk => ?_⟩
      · cases j with
        | zero => simp [c]
        | succ j => simpa using h2 j (by omega)
      · rw [el]; exact h3 x y (by simpa using hx) (by simpa using hy)
      · rw [el]; exact h4 (by simpa using hk)
    · have el : lexN e (a :: r) (b :: q) = decide (a < b) := if_neg c
      refine ⟨0, Nat.zero_le _, fun j hj => absurd hj (Nat.not_lt_zero _), fun x y hx hy => ?_, fun hk => by simp at hk⟩
      cases hx; cases hy
      exact ⟨c, el⟩
theorem lexN_append (e : Bool) : ∀ {r q u v : List Nat}, r.length = q.length → lexN e (r ++ u) (q ++ v) = if r = q then lexN e u v else lexN e r q
  | [], [], _, _, _ => (if_pos rfl).symm
  | [], _ :: _, _, _, h => by simp at h
  | _ :: _, [], _, _, h => by simp at h
  | a :: r, b :: q, u, v, h => by
    by_cases c : a = b
    · have e1 : lexN e (a :: r ++ u) (b :: q ++ v) = lexN e (r ++ u) (q ++ v) := if_pos c
      have e2 : lexN e (a :: r) (b :: q) = lexN e r q := if_pos c
      rw [e1, e2, lexN_append e (by simpa using h)]
      by_cases d : r = q
      · rw [if_pos d, if_pos (by rw [c, d])]
      · rw [if_neg d, if_neg (fun w => d (List.cons.inj w).2)]
    · have e1 : lexN e (a :: r ++ u) (b :: q ++ v) = decide (a < b) := if_neg c
      have e2 : lexN e (a :: r) (b :: q) = decide (a < b) := if_neg c
      rw [e1, e2, if_neg (fun w => c (List.cons.inj w).1)]
theorem lexN_self (e : Bool) : ∀ r : List Nat, lexN e r r = e
  | [] => rfl
  | a :: r => (if_pos rfl).trans (lexN_self e r)
theorem nd_depth1 : ∀ r : List Nat, PyData.depthAll (nd r) ≤ 1
  | [] => Nat.zero_le _
  | a :: r => by
    show max (PyData.depth (.int _)) (PyData.depthAll (nd r)) ≤ 1
    exact Nat.max_le.mpr ⟨by simp [PyData.depth], nd_depth1 r⟩
theorem nd_deep (r : List Nat) : (PyData.tuple (nd r)).depth ≤ 10 := by
  show PyData.depthAll (nd r) + 1 ≤ 10
  have := nd_depth1 r
  omega

theorem cmp_lt_tup {A : Around} {s : Shared} {a b : Value} {xs ys : List PyData} {as bs : List Addr} (k : Nat) (c : Bool) (ra : Reads s.heap a (.tuple xs) as) (rb : Reads s.heap b (.tuple ys) bs) (len : xs.length = ys.length) (hk : k ≤ xs.length) (hu : A.units < cLine)
    (he : ∀ j x y v w as bs, j < k → xs[j]? = some x → ys[j]? = some y → Reads s.heap v x as → Reads s.heap w y bs → SeqAt.EqAt A.in1 s v w true)
    (hd : ∀ x y v w as bs, xs[k]? = some x → ys[k]? = some y → Reads s.heap v x as → Reads s.heap w y bs → SeqAt.EqAt A.in1 s v w false ∧ CmpAt .Lt A.in1 s v w c)
    (hc : k = xs.length → c = false) : CmpAt .Lt A s a b c := by
  intro prog w E Q h
  cases ra with
  | tuple h1 h2 h3 h4 =>
    cases rb with
    | tuple k1 k2 k3 k4 =>
      rename_i l o vs n l' o' ws n'
      obtain ⟨cls, dd, data, sl⟩ := o
      obtain ⟨cls', dd', data', sl'⟩ := o'
      simp only at h2 h3 k2 k3
      subst h2 h3 k2 k3
      have e1 := readsAll_len h4
      have e2 := readsAll_len k4
      have e1' : vs.size = xs.length := by rw [← e1]; simp
      have e2' : ws.size = ys.length := by rw [← e2]; simp
      refine richCompare_meets_room (op := .Lt) ⟨_, h1, rfl⟩ ⟨_, k1, rfl⟩ PySem.F.slot_tuple_lt PySem.F.entry_tuple_lt (PySem.F.args_tuple_lt_2 _ _) (tuple_ltAt l l' vs ws n n' dd dd' sl sl' k c) ⟨h1, k1, by omega, by omega, fun j j1 j2 hj => ?_, fun j1 j2 => ?_, fun e => hc (by omega), show Value.bool c ≠ Value.notImplemented ∧ Q (.bool c) s from ⟨(fun x => nomatch x), h⟩⟩ hu
      · obtain ⟨x, xa, ex, rx⟩ := readsAll_nth h4 j (by simpa using j1)
        obtain ⟨y, ya, ey, ry⟩ := readsAll_nth k4 j (by simpa using j2)
        exact he j x y _ _ _ _ hj ex ey (by simpa using rx) (by simpa using ry)
      · obtain ⟨x, xa, ex, rx⟩ := readsAll_nth h4 k (by simpa using j1)
        obtain ⟨y, ya, ey, ry⟩ := readsAll_nth k4 k (by simpa using j2)
        exact hd x y _ _ _ _ ex ey (by simpa using rx) (by simpa using ry)
/-- rows of numbers -/
theorem cmp_lt_nd {A : Around} {s : Shared} {a b : Value} {r q : List Nat} {as bs : List Addr} (ra : Reads s.heap a (.tuple (nd r)) as) (rb : Reads s.heap b (.tuple (nd q)) bs) (len : r.length = q.length) (hu : A.units < cLine) : CmpAt .Lt A s a b (lexN false r q) := by
  obtain ⟨k, hk, heq, hne, hall⟩ := first_off false r q len
  refine cmp_lt_tup k _ ra rb (by simp [nd, len]) (by simpa [nd] using hk) hu (fun j x y v w as bs hj hx hy rx ry => ?_) (fun x y v w as bs hx hy rx ry => ?_) (fun e => hall (by simpa [nd] using e))
  · have := heq j hj
    simp only [nd, List.getElem?_map] at hx hy
    rw [this] at hx
    rw [hx] at hy
    cases hy
    obtain ⟨m, _, rfl⟩ := Option.map_eq_some_iff.mp hx
    cases rx with
    | int _ t =>
      cases ry with
      | int _ t' =>
        have := SeqAt.EqAt.int_int (A := A.in1) (s := s) (m : Int) t (m : Int) t'
        simpa using this
  · simp only [nd, List.getElem?_map] at hx hy
    obtain ⟨m, hm, rfl⟩ := Option.map_eq_some_iff.mp hx
    obtain ⟨m', hm', rfl⟩ := Option.map_eq_some_iff.mp hy
    obtain ⟨q1, q2⟩ := hne m m' hm hm'
    cases rx with
    | int _ t =>
      cases ry with
      | int _ t' =>
        refine ⟨?_, ?_⟩
        · have := SeqAt.EqAt.int_int (A := A.in1) (s := s) (m : Int) t (m' : Int) t'
          have e : ((m : Int) == (m' : Int)) = false := by simpa using fun h : (m : Int) = m' => q1 (by omega)
          rwa [e] at this
        · have := cmp_lt_int A.in1 s m m' t t'
          have e : decide ((m : Int) < (m' : Int)) = lexN false r q := by rw [q2]; exact decide_eq_decide.mpr ⟨fun h => by omega, fun h => by omega⟩
          rwa [e] at this
/-- two things in a tuple -/
theorem cmp_lt_two {A : Around} {s : Shared} {a b : Value} {x y x' y' : PyData} {as bs : List Addr} (c : Bool) (ra : Reads s.heap a (.tuple [x, y]) as) (rb : Reads s.heap b (.tuple [x', y']) bs) (hu : A.units + 20 < cLine)
    (l1 : x.canLay0 = true) (l2 : y.canLay0 = true) (l1' : x'.canLay0 = true) (l2' : y'.canLay0 = true) (d1 : x.depth ≤ 10) (d2 : y.depth ≤ 10)
    (c1 : PyData.eqv x x' = false → ∀ v w as bs, Reads s.heap v x as → Reads s.heap w x' bs → CmpAt .Lt A.in1 s v w c)
    (c2 : PyData.eqv x x' = true → PyData.eqv y y' = false → ∀ v w as bs, Reads s.heap v y as → Reads s.heap w y' bs → CmpAt .Lt A.in1 s v w c)
    (c3 : PyData.eqv x x' = true → PyData.eqv y y' = true → c = false) : CmpAt .Lt A s a b c := by
  have ux : ∀ v w as bs, Reads s.heap v x as → Reads s.heap w x' bs → SeqAt.EqAt A.in1 s v w (PyData.eqv x x') := fun v w as bs r1 r2 => SeqAt.eqAt_reads x x' A.in1 s v w as bs r1 r2 l1 l1' (by show A.units + 1 + min x.depth x'.depth < cLine; omega)
  have uy : ∀ v w as bs, Reads s.heap v y as → Reads s.heap w y' bs → SeqAt.EqAt A.in1 s v w (PyData.eqv y y') := fun v w as bs r1 r2 => SeqAt.eqAt_reads y y' A.in1 s v w as bs r1 r2 l2 l2' (by show A.units + 1 + min y.depth y'.depth < cLine; omega)
  cases e1 : PyData.eqv x x' with
  | false =>
    rw [e1] at ux
    refine cmp_lt_tup 0 c ra rb rfl (by simp) (by omega) (fun j _ _ _ _ _ _ hj => absurd hj (Nat.not_lt_zero _)) (fun p q v w as bs hp hq rp rq => ?_) (fun e => by simp at e)
    cases hp; cases hq
    exact ⟨ux _ _ _ _ rp rq, c1 e1 _ _ _ _ rp rq⟩
  | true =>
    rw [e1] at ux
    cases e2 : PyData.eqv y y' with
    | false =>
      rw [e2] at uy
      refine cmp_lt_tup 1 c ra rb rfl (by simp) (by omega) (fun j p q v w as bs hj hp hq rp rq => ?_) (fun p q v w as bs hp hq rp rq => ?_) (fun e => by simp at e)
      · have : j = 0 := by omega
        subst this
        cases hp; cases hq
        exact ux _ _ _ _ rp rq
      · cases hp; cases hq
        exact ⟨uy _ _ _ _ rp rq, c2 e1 e2 _ _ _ _ rp rq⟩
    | true =>
      rw [e2] at uy
      refine cmp_lt_tup 2 c ra rb rfl (by simp) (by omega) (fun j p q v w as bs hj hp hq rp rq => ?_) (fun p q v w as bs hp hq rp rq => by simp at hp) (fun e => c3 e1 e2)
      have : j = 0 ∨ j = 1 := by omega
      rcases this with rfl | rfl
      · cases hp; cases hq
        exact ux _ _ _ _ rp rq
      · cases hp; cases hq
        exact uy _ _ _ _ rp rq
theorem cmp_lt_sd {A : Around} {s : Shared} {a b : Value} {r u r' u' : List Nat} {as bs : List Addr} (ra : Reads s.heap a (sd r u) as) (rb : Reads s.heap b (sd r' u') bs) (len : r.length = r'.length) (len2 : u.length = u'.length) (hu : A.units + 20 < cLine) : CmpAt .Lt A s a b (lexN false (r ++ u) (r' ++ u')) := by
  have eq1 : PyData.eqv (.tuple (nd r)) (.tuple (nd r')) = decide (r = r') := nd_eqv r r'
  have eq2 : PyData.eqv (.tuple (nd u)) (.tuple (nd u')) = decide (u = u') := nd_eqv u u'
  refine cmp_lt_two _ ra rb hu (nd_lay r) (nd_lay u) (nd_lay r') (nd_lay u') (nd_deep r) (nd_deep u) (fun h v w as bs r1 r2 => ?_) (fun h h2 v w as bs r1 r2 => ?_) (fun h h2 => ?_)
  · have := cmp_lt_nd (A := A.in1) r1 r2 len (by show A.units + 1 < cLine; omega)
    rw [eq1, decide_eq_false_iff_not] at h
    rwa [lexN_append false len, if_neg h]
  · have := cmp_lt_nd (A := A.in1) r1 r2 len2 (by show A.units + 1 < cLine; omega)
    rw [eq1, decide_eq_true_iff] at h
    rwa [lexN_append false len, if_pos h]
  · rw [eq1, decide_eq_true_iff] at h
    rw [eq2, decide_eq_true_iff] at h2
    rw [lexN_append false len, if_pos h, h2, lexN_self]

end L2
namespace L2
open PySem PySem.Spec PyProof.Rows PySem.W
theorem lt_loopD (l b : Addr) (items items2 : Array Value) (n n2 : Nat) (dd dd2 : Option Addr) (sl sl2 : Array (Option Value)) (ns ms : List Int) (hi : IntsAre items.toList ns) (hj : IntsAre items2.toList ms) : ∀ (k i : Nat), i + k = items.size →
    Meets (Builtin.«list.__eq__.loop» ⟨[.ref l, .ref b, rawInt (i : Nat), rawInt 0], []⟩) (fun A R s => s.heap.get? l = some { cls := .type "list", dict := dd, data := .seq items n, slots := sl } ∧ s.heap.get? b = some { cls := .type "list", dict := dd2, data := .seq items2 n2, slots := sl2 } ∧
      R (.ok (.ret (.bool (HT.lexLt (ns.drop i) (ms.drop i))))) s) := by
  intro k
  induction k with
  | zero =>
    intro i hk prog w A R s ⟨hl, hb, hR⟩
    unfold Builtin.«list.__eq__.loop»
    dsimp only [rawInt]
    refine wpAny_bind (listItems_at hl rfl (wpAny_bind (listItems_at hb rfl ?_)))
    rw [Int.toNat_natCast]
    have e1 : items[i]? = none := Array.getElem?_eq_none (by omega)
    rw [e1]
    refine wpAny_bind (listItems_at hl rfl (wpAny_bind (listItems_at hb rfl ?_)))
    show wpAny _ _ (ret (Value.bool (decide (items.size < items2.size)))) _ _ _
    have en : ns.drop i = [] := List.drop_eq_nil_of_le (by rw [← hi.length]; simp; omega)
    rw [en] at hR
    have ez : HT.lexLt [] (ms.drop i) = decide (items.size < items2.size) := by
      have el : ms.length = items2.size := by rw [← hj.length]; simp
      cases hd : ms.drop i with
      | nil =>
        have := List.drop_eq_nil_iff.mp hd
        rw [HT.lexLt_nil_nil, decide_eq_false (by omega)]
      | cons y ys =>
        have : ¬ ms.length ≤ i := fun z => by rw [List.drop_eq_nil_of_le z] at hd; cases hd
        rw [HT.lexLt_nil_cons, decide_eq_true (by omega)]
    rw [ez] at hR
    exact wpAny_pure hR
  | succ k ih =>
    intro i hk prog w A R s ⟨hl, hb, hR⟩
    unfold Builtin.«list.__eq__.loop»
    dsimp only [rawInt]
    refine wpAny_bind (listItems_at hl rfl (wpAny_bind (listItems_at hb rfl ?_)))
    rw [Int.toNat_natCast]
    have g1 := ints_get hi i
    have g2 := ints_get hj i
    simp only [Array.getElem?_toList] at g1 g2
    rcases g1 with ⟨g1, _⟩ | ⟨a, t, g1, g1'⟩
    · have := Array.getElem?_eq_none_iff.mp g1
      omega
    · rw [g1]
      rw [drop_of g1'] at hR
      rcases g2 with ⟨g2, g2'⟩ | ⟨c, u, g2, g2'⟩
      · rw [g2]
        refine wpAny_bind (listItems_at hl rfl (wpAny_bind (listItems_at hb rfl ?_)))
        show wpAny _ _ (ret (Value.bool (decide (items.size < items2.size)))) _ _ _
        have h1 := Array.getElem?_eq_none_iff.mp g2
        rw [List.drop_eq_nil_of_le (List.getElem?_eq_none_iff.mp g2'), HT.lexLt_cons_nil] at hR
        rw [decide_eq_false (by omega)]
        exact wpAny_pure hR
      · rw [g2]
        rw [drop_of g2', HT.lexLt_cons] at hR
        obtain ⟨e, he, hiff⟩ := HT.eqAt_int A.in1 s a t c u
        refine wpAny_bind (he prog w _ _ ?_)
        cases e with
        | true =>
          rw [if_pos (hiff.mp rfl)] at hR
          rw [if_pos rfl]
          exact MeetsSeq.meets_again rfl MeetsSeq3.plain_eq_loop MeetsSeq3.entry_eq_loop (ih (i + 1) (by omega)) prog w A R s ⟨hl, hb, hR⟩
        | false =>
          rw [if_neg (fun q => absurd (hiff.mpr q) Bool.false_ne_true)] at hR
          rw [if_neg (by decide)]
          refine wpAny_bind (listItems_at hl rfl (wpAny_bind (listItems_at hb rfl ?_)))
          rw [g1, g2]
          dsimp only
          refine wpAny_bind (HT.rcLt_int A.in1 s a t c u prog w _ _ ?_)
          exact wpAny_pure hR
theorem list_lt_intsD (l b : Addr) (items items2 : Array Value) (n n2 : Nat) (dd dd2 : Option Addr) (sl sl2 : Array (Option Value)) (ns ms : List Int) (hi : IntsAre items.toList ns) (hj : IntsAre items2.toList ms) :
    Meets (Builtin.«list.__lt__» ⟨[.ref l, .ref b], []⟩) (fun A R s => s.heap.get? l = some { cls := .type "list", dict := dd, data := .seq items n, slots := sl } ∧ s.heap.get? b = some { cls := .type "list", dict := dd2, data := .seq items2 n2, slots := sl2 } ∧
      R (.ok (.ret (.bool (HT.lexLt ns ms)))) s) := by
  intro prog w A R s ⟨hl, hb, hR⟩
  have f2 := AutoSeq1.sub_list_list
  obtain ⟨hp, g, d, tk, os⟩ := s
  wp_walk
  exact ⟨plainId_quiet MeetsSeq3.plain_eq_loop _, codeAny_builtin MeetsSeq3.entry_eq_loop (by rw [Around.under_plainId MeetsSeq3.plain_eq_loop]; exact lt_loopD l b items items2 n n2 dd dd2 sl sl2 ns ms hi hj items.size 0 (by omega) prog w A R _ ⟨hl, hb, hR⟩)⟩

theorem nd_ints : ∀ {h : Heap} {f : List Nat} {vs : List Value} {as : List Addr}, ReadsAll h vs (nd f) as → IntsAre vs (f.map fun (x : Nat) => (x : Int))
  | _, [], _, _, r => by cases r; exact .nil
  | _, x :: f, _, _, r => by
    cases r with
    | cons r t => cases r; exact .cons _ _ (nd_ints t)
theorem lexLt_N : ∀ f g : List Nat, f.length = g.length → HT.lexLt (f.map fun (x : Nat) => (x : Int)) (g.map fun (x : Nat) => (x : Int)) = lexN false f g
  | [], [], _ => rfl
  | [], _ :: _, h => by simp at h
  | _ :: _, [], h => by simp at h
  | a :: f, b :: g, h => by
    rw [List.map_cons, List.map_cons, HT.lexLt_cons, lexLt_N f g (by simpa using h)]
    show _ = if a = b then lexN false f g else decide (a < b)
    by_cases c : a = b
    · rw [if_pos c, if_pos (by omega)]
    · rw [if_neg c, if_neg (by omega)]
      exact decide_eq_decide.mpr ⟨fun h => by omega, fun h => by omega⟩
theorem cmp_lt_ld {A : Around} {s : Shared} {a b : Value} {f g : List Nat} {as bs : List Addr} (ra : Reads s.heap a (.list (nd f)) as) (rb : Reads s.heap b (.list (nd g)) bs) (len : f.length = g.length) (hu : A.units < cLine) : CmpAt .Lt A s a b (lexN false f g) := by
  intro prog w E Q h
  cases ra with
  | list h1 h2 h3 h4 =>
    cases rb with
    | list k1 k2 k3 k4 =>
      rename_i l o vs n as l' o' ws n' bs
      obtain ⟨cls, dd, data, sl⟩ := o
      obtain ⟨cls', dd', data', sl'⟩ := o'
      simp only at h2 h3 k2 k3
      subst h2 h3 k2 k3
      rw [← lexLt_N f g len] at h
      exact richCompare_meets_room (op := .Lt) ⟨_, h1, rfl⟩ ⟨_, k1, rfl⟩ PySem.F.slot_list_lt PySem.F.entry_list_lt (PySem.F.args_list_lt_2 _ _) (list_lt_intsD l l' vs ws n n' dd dd' sl sl' _ _ (nd_ints h4) (nd_ints k4)) ⟨h1, k1, show Value.bool (HT.lexLt _ _) ≠ Value.notImplemented ∧ Q (.bool (HT.lexLt _ _)) s from ⟨(fun x => nomatch x), h⟩⟩ hu
/-- a sheet and its numbers -/
def fd (r u f : List Nat) : PyData := .tuple [sd r u, .list (nd f)]
theorem cmp_lt_fd {A : Around} {s : Shared} {a b : Value} {r u f r' u' f' : List Nat} {as bs : List Addr} (ra : Reads s.heap a (fd r u f) as) (rb : Reads s.heap b (fd r' u' f') bs) (len : r.length = r'.length) (len2 : u.length = u'.length) (len3 : f.length = f'.length) (hu : A.units + 30 < cLine) :
    CmpAt .Lt A s a b (lexN false (r ++ u ++ f) (r' ++ u' ++ f')) := by
  have eq1 : PyData.eqv (sd r u) (sd r' u') = decide (r ++ u = r' ++ u') := by
    rw [sd_eqv, ← Bool.decide_and]
    exact decide_eq_decide.mpr ⟨fun ⟨h1, h2⟩ => by rw [h1, h2], fun h => List.append_inj h len⟩
  have eq2 : PyData.eqv (.list (nd f)) (.list (nd f')) = decide (f = f') := nd_eqv f f'
  have len4 : (r ++ u).length = (r' ++ u').length := by rw [List.length_append, List.length_append, len, len2]
  have ds : (sd r u).depth ≤ 10 := by
    show PyData.depthAll [.tuple (nd r), .tuple (nd u)] + 1 ≤ 10
    show max (PyData.depthAll (nd r) + 1) (max (PyData.depthAll (nd u) + 1) _) + 1 ≤ 10
    have h1 := nd_depth1 r
    have h2 := nd_depth1 u
    have h3 : PyData.depthAll [] = 0 := by simp [PyData.depthAll]
    rw [h3]
    omega
  have dl : (PyData.list (nd f)).depth ≤ 10 := by
    show PyData.depthAll (nd f) + 1 ≤ 10
    have := nd_depth1 f
    omega
  refine cmp_lt_two _ ra rb (by omega) (sd_lay r u) (nd_lay f) (sd_lay r' u') (nd_lay f') ds dl (fun h v w as bs r1 r2 => ?_) (fun h h2 v w as bs r1 r2 => ?_) (fun h h2 => ?_)
  · have := cmp_lt_sd (A := A.in1) r1 r2 len len2 (by show A.units + 1 + 20 < cLine; omega)
    rw [eq1, decide_eq_false_iff_not] at h
    rwa [lexN_append false len4, if_neg h]
  · have := cmp_lt_ld (A := A.in1) r1 r2 len3 (by show A.units + 1 < cLine; omega)
    rw [eq1, decide_eq_true_iff] at h
    rwa [lexN_append false len4, if_pos h]
  · rw [eq1, decide_eq_true_iff] at h
    rw [eq2, decide_eq_true_iff] at h2
    rw [lexN_append false len4, if_pos h, h2, lexN_self]
def Ext (h0 h : Heap) : Prop := ∀ b o, h0.get? b = some o → h.get? b = some o
def CmpIn (prog : Program) (w : World) (A : Around) (h0 : Heap) (P : Nat → Value → Prop) (bt : Nat → Nat → Bool) : Prop :=
  ∀ i j vi vj (s : Shared) (Q E : Value → Shared → Prop), Ext h0 s.heap → P i vi → P j vj → Q (.bool (bt i j)) s → wpAny (model prog w) A (richCompare .Lt vi vj) Q E s
section
variable {prog : Program} {w : World} {A : Around} {R : Result → Shared → Prop} {I : Addr} {fp wr : List Addr} {n : Nat} {P : Nat → Value → Prop} {St : Nat → Heap → Prop} {h0 : Heap}
theorem minH_loop (W : Walks prog w A.in1 I fp wr n P St) (bt : Nat → Nat → Bool) (ask : CmpIn prog w A.in1 h0 P bt) (S : Addr) (nS : S ∉ fp) (S0 : h0.get? S = none) (w0 : ∀ b ∈ wr, h0.get? b = none) :
    ∀ (m j : Nat) (s : Shared) (best : Value) (ep : Nat), n = j + 1 + m → St (j + 1) s.heap → Ext h0 s.heap → P (argBest bt j) best →
    s.heap.get? S = some { cls := .type "list", dict := none, data := .seq #[best, best] ep, slots := #[] } →
    (∀ v h' tk, P (argBest bt (n - 1)) v → Ext h0 h' → R (.ok (.ret v)) { s with heap := h', toks := tk }) →
    codeAny (model prog w) A (.builtin "min.loop" ⟨[.ref I, .none, .ref S], []⟩) R s := by
  have nSw : S ∉ wr := fun h => nS (W.sub _ h)
  have loopName : (toString "min" ++ toString ".loop" : String) = "min.loop" := by decide
  have ext : ∀ {h h' : Heap}, Ext h0 h → (∀ b o, b ∉ wr → h.get? b = some o → h'.get? b = some o) → Ext h0 h' := fun e k b o g => k b o (fun hb => by rw [w0 b hb] at g; cases g) (e b o g)
  have extU : ∀ {h : Heap} {f : Obj → Obj}, Ext h0 h → Ext h0 (h.update S f) := fun e b o g => (Heap.get?_update_other _ _ (fun q : S = b => by rw [← q, S0] at g; cases g)).trans (e b o g)
  intro m
  induction m with
  | zero =>
    intro j s best ep hn st ex pb gS fin
    refine codeAny_builtin F.entry_min_loop ?_
    rw [Around.under_plainId F.plain_min_loop _]
    refine wpAny_bind (m := seqItems? (.ref S)) (wpAny_seqItems gS rfl ?_)
    refine wpAny_bind (m := tryCatch (pyNext (.ref I)) _) (wpAny_tryCatch (W.done s _ _ (by rw [hn]; exact st) fun h' tk keep => ?_))
    have gS' := keep S _ nSw gS
    refine wpAny_bind (m := updateSeq S (fun _ => #[])) (wpAny_updateSeq gS' rfl (wpAny_bind (wpAny_letGo (wpAny_pure ?_))))
    refine fin best _ tk ?_ (extU (ext ex keep))
    have e : n - 1 = j := by omega
    rw [e]; exact pb
  | succ m ih =>
    intro j s best ep hn st ex pb gS fin
    refine codeAny_builtin F.entry_min_loop ?_
    rw [Around.under_plainId F.plain_min_loop _]
    refine wpAny_bind (m := seqItems? (.ref S)) (wpAny_seqItems gS rfl ?_)
    refine wpAny_bind (m := tryCatch (pyNext (.ref I)) _) (wpAny_tryCatch (W.item (j + 1) s _ _ (by omega) st fun v h' tk pv st' keep => ?_))
    have gS' := keep S _ nSw gS
    have ex' := ext ex keep
    show wpAny _ A.in1 (tryCatch (holding [v, v] (richCompare .Lt v best >>= _)) _ >>= _) _ _ _
    refine wpAny_bind (wpAny_tryCatch (wpAny_holding (wpAny_bind (ask (j + 1) (argBest bt j) v best _ _ _ ex' pv pb ?_))))
    refine wpAny_bind (wpAny_holding (wpAny_truthy_bool ?_))
    refine wpAny_bind (wpAny_letGo (wpAny_pure ?_))
    cases hb : bt (j + 1) (argBest bt j) with
    | true =>
      simp only [if_true]
      refine wpAny_bind (wpAny_updateSeq gS' rfl (wpAny_bind (wpAny_letGo ?_)))
      rw [loopName]
      refine wpAny_pure ⟨plainId_quiet F.plain_min_loop _, ih (j + 1) _ v _ (by omega) (W.frame _ _ _ st' fun b hbf o e => ?_) (extU ex') (by simp only [argBest, hb, if_true]; exact pv) (Heap.get?_update_self _ gS' rfl) fun v' h'' tk'' pv' ex'' => fin v' h'' tk'' pv' ex''⟩
      exact (Heap.get?_update_other _ _ (fun q : S = b => nS (by rw [q]; exact hbf))).trans e
    | false =>
      simp only [Bool.false_eq_true, if_false]
      refine wpAny_bind (wpAny_letGo ?_)
      rw [loopName]
      exact wpAny_pure ⟨plainId_quiet F.plain_min_loop _, ih (j + 1) _ best ep (by omega) st' ex' (by simp only [argBest, hb, Bool.false_eq_true, if_false]; exact pb) gS' fun v' h'' tk'' pv' ex'' => fin v' h'' tk'' pv' ex''⟩
theorem minH_first (W : Walks prog w A.in1 I fp wr n P St) (bt : Nat → Nat → Bool) (ask : CmpIn prog w A.in1 h0 P bt) (S : Addr) (nS : S ∉ fp) (S0 : h0.get? S = none) (w0 : ∀ b ∈ wr, h0.get? b = none) (pos : 0 < n) {s : Shared} {ep : Nat} (st : St 0 s.heap) (ex : Ext h0 s.heap)
    (gS : s.heap.get? S = some { cls := .type "list", dict := none, data := .seq #[] ep, slots := #[] })
    (fin : ∀ v h' tk, P (argBest bt (n - 1)) v → Ext h0 h' → R (.ok (.ret v)) { s with heap := h', toks := tk }) :
    codeAny (model prog w) A (.builtin "min.loop" ⟨[.ref I, .none, .ref S], []⟩) R s := by
  have nSw : S ∉ wr := fun h => nS (W.sub _ h)
  have loopName : (toString "min" ++ toString ".loop" : String) = "min.loop" := by decide
  refine codeAny_builtin F.entry_min_loop ?_
  rw [Around.under_plainId F.plain_min_loop _]
  refine wpAny_bind (m := seqItems? (.ref S)) (wpAny_seqItems gS rfl ?_)
  refine wpAny_bind (m := tryCatch (pyNext (.ref I)) _) (wpAny_tryCatch (W.item 0 s _ _ pos st fun v h' tk pv st' keep => ?_))
  have gS' := keep S _ nSw gS
  refine wpAny_bind (m := updateSeq S (fun _ => #[v, v])) (wpAny_updateSeq gS' rfl ?_)
  rw [loopName]
  refine wpAny_pure ⟨plainId_quiet F.plain_min_loop _, minH_loop W bt ask S nS S0 w0 (n - 1) 0 _ v _ (by omega) (W.frame _ _ _ st' fun b hbf o e => ?_) (fun b o g => ?_) pv (Heap.get?_update_self _ gS' rfl) fun v' h'' tk'' pv' ex'' => fin v' h'' tk'' pv' ex''⟩
  · exact (Heap.get?_update_other _ _ (fun q : S = b => nS (by rw [q]; exact hbf))).trans e
  · exact (Heap.get?_update_other _ _ (fun q : S = b => by rw [← q, S0] at g; cases g)).trans (keep b o (fun hb => by rw [w0 b hb] at g; cases g) (ex b o g))
end
section
variable {prog : Program} {w : World} {A : Around} {E : Value → Shared → Prop} {s : Shared}
theorem call_minH {x : Value} {Q : Value → Shared → Prop} (it : wpAny (model prog w) A.in1 (pyIter x) (fun it s₂ => ∃ I fp wr n P St bt, it = .ref I ∧ Walks prog w A.in1 I fp wr n P St ∧ St 0 s₂.heap ∧ (∀ b ∈ fp, b < s₂.heap.objs.size) ∧ Ext s.heap s₂.heap ∧ s.heap.objs.size ≤ s₂.heap.objs.size ∧ (∀ b ∈ wr, s.heap.get? b = none) ∧ 0 < n ∧ CmpIn prog w A.in1 s.heap P bt ∧
      ∀ v h' tk, P (argBest bt (n - 1)) v → Ext s.heap h' → Q v { s₂ with heap := h', toks := tk }) E s) :
    wpAny (model prog w) A (call (.builtin "min") [x]) Q E s := by
  have loopName : (toString "min" ++ toString ".loop" : String) = "min.loop" := by decide
  refine call_function_tree F.kind_min F.plain_min F.entry_min (F.args_min1 _) ?_
  refine wpAny_bind (m := Builtin.Builtins.bindParams "min" ["key", "default"] 0 ⟨[], []⟩) (wpAny_of_eq (show Builtin.Builtins.bindParams "min" ["key", "default"] 0 ⟨[], []⟩ = pure [none, none] from rfl) ?_)
  refine wpAny_bind (wpAny_pure ?_)
  refine wpAny_bind (wpAny_mono it (fun it s₂ hw => ?_) fun _ _ e => e)
  obtain ⟨I, fp, wr, n, P, St, bt, rfl, W, st, inb, ex, big, w0, pos, ask, q⟩ := hw
  refine wpAny_bind (wpAny_newObj_type ?_)
  have nS : s₂.heap.objs.size ∉ fp := fun hm => Nat.lt_irrefl _ (inb _ hm)
  rw [loopName]
  refine wpAny_pure ⟨plainId_quiet F.plain_min_loop _, minH_first W bt ask s₂.heap.objs.size nS ?_ w0 pos (W.frame _ _ _ st fun b _ o e => Heap.get?_push_of_some _ e) (fun b o g => Heap.get?_push_of_some _ (ex b o g)) (Heap.get?_push_size _ rfl) fun v h' tk pv e => q v h' tk pv e⟩
  cases g : s.heap.get? s₂.heap.objs.size with
  | none => rfl
  | some o => exact absurd (Heap.lt_size g) (Nat.not_lt.mpr big)
end
end L2
namespace L2
open PySem PySem.Spec PyProof.Rows PySem.W
theorem lexN_tr : ∀ {a b c : List Nat}, lexN false a b = true → lexN false b c = true → lexN false a c = true
  | [], _, _, h, _ => by cases h
  | _ :: _, [], _, h, _ => by cases h
  | _ :: _, _ :: _, [], _, h => by cases h
  | x :: a, y :: b, z :: c, h1, h2 => by
    have h1 : (if x = y then lexN false a b else decide (x < y)) = true := h1
    have h2 : (if y = z then lexN false b c else decide (y < z)) = true := h2
    show (if x = z then lexN false a c else decide (x < z)) = true
    by_cases e1 : x = y
    · rw [if_pos e1] at h1
      by_cases e2 : y = z
      · rw [if_pos e2] at h2
        rw [if_pos (e1.trans e2)]
        exact lexN_tr h1 h2
      · rw [if_neg e2, decide_eq_true_iff] at h2
        rw [if_neg (by omega), decide_eq_true_iff]; omega
    · rw [if_neg e1, decide_eq_true_iff] at h1
      by_cases e2 : y = z
      · rw [if_neg (by omega), decide_eq_true_iff]; omega
      · rw [if_neg e2, decide_eq_true_iff] at h2
        rw [if_neg (by omega), decide_eq_true_iff]; omega
theorem lexN_tot : ∀ {a b : List Nat}, a.length = b.length → lexN false a b = false → lexN false b a = false → a = b
  | [], [], _, _, _ => rfl
  | [], _ :: _, h, _, _ => by simp at h
  | _ :: _, [], h, _, _ => by simp at h
  | x :: a, y :: b, h, h1, h2 => by
    have h1 : (if x = y then lexN false a b else decide (x < y)) = false := h1
    have h2 : (if y = x then lexN false b a else decide (y < x)) = false := h2
    by_cases e : x = y
    · rw [if_pos e] at h1
      rw [if_pos e.symm] at h2
      rw [e, lexN_tot (by simpa using h) h1 h2]
    · rw [if_neg e, decide_eq_false_iff_not] at h1
      rw [if_neg (fun w => e w.symm), decide_eq_false_iff_not] at h2
      omega
theorem best_of {lt : Nat → Nat → Bool} (ir : ∀ i, lt i i = false) (tr : ∀ i j k, lt i j = true → lt j k = true → lt i k = true) : ∀ n : Nat, argBest lt n ≤ n ∧ ∀ j, j ≤ n → lt j (argBest lt n) = false
  | 0 => ⟨Nat.le_refl _, fun j hj => by have : j = 0 := by omega
                                        subst this; exact ir 0⟩
  | n + 1 => by
    obtain ⟨h1, h2⟩ := best_of ir tr n
    show (if lt (n + 1) (argBest lt n) = true then n + 1 else argBest lt n) ≤ n + 1 ∧ ∀ j, j ≤ n + 1 → lt j (if lt (n + 1) (argBest lt n) = true then n + 1 else argBest lt n) = false
    by_cases c : lt (n + 1) (argBest lt n) = true
    · rw [if_pos c]
      refine ⟨Nat.le_refl _, fun j hj => ?_⟩
      rcases Nat.lt_or_ge j (n + 1) with d | d
      · cases e : lt j (n + 1) with
        | false => rfl
        | true => have := tr _ _ _ e c; rw [h2 j (by omega)] at this; cases this
      · have : j = n + 1 := by omega
        subst this; exact ir _
    · rw [if_neg c]
      refine ⟨by omega, fun j hj => ?_⟩
      rcases Nat.lt_or_ge j (n + 1) with d | d
      · exact h2 j (by omega)
      · have : j = n + 1 := by omega
        subst this; simpa using c
section
variable {X : Cx}
/-- min of a list of sheets with their numbers -/
def rMinF (K : PySem.W.Frag) (A : Around) : List V → Hp → VK → Prop := fun xs H Q => ∃ (p : Addr) (as : List Addr) (n : Nat) (rs us fs : Nat → List Nat), xs = [.ref p] ∧ SqL K H p (as.map V.ref) ∧ as ≠ [] ∧ A.units + 40 < cLine ∧
  (∀ i, i < as.length → Dt K H (.ref (as.getD i 0)) (fd (rs i) (us i) (fs i)) ∧ (rs i).length = n ∧ (us i).length = n ∧ (fs i).length = n) ∧
  ∀ k, k < as.length → (∀ j, j < as.length → lexN false (rs j ++ us j ++ fs j) (rs k ++ us k ++ fs k) = false) → Q (.ref (as.getD k 0)) H
theorem call_minF (hc : X.calm = true) : CallR X (.builtin "min") (rMinF X.K X.A) := by
  intro pins s σ H xs us Q I rr h
  obtain ⟨p, as, n, rs, ups, fs, rfl, hq, hne, hu, hD, q⟩ := h
  obtain ⟨u, rfl, ru⟩ := vals1 rr
  obtain rfl : u = Value.ref p := ru
  obtain ⟨its, rv, pl, hz⟩ := I.list hq
  have ei := vals_refs rv
  subst ei
  have hL := pl.isList
  have hlt : p < s.heap.objs.size := by obtain ⟨o, ho, _⟩ := id hL; exact Heap.lt_size ho
  have hpos : 0 < as.length := List.length_pos_iff.mpr hne
  have hsz : (as.map Value.ref).toArray.size = as.length := by simp
  have hval : ∀ i v, (as.map Value.ref).toArray[i]? = some v → i < as.length ∧ v = .ref (as.getD i 0) := fun i v hP => by
    have hv : as[i]?.map Value.ref = some v := by simpa using hP
    obtain ⟨a, ha, rfl⟩ := Option.map_eq_some_iff.mp hv
    obtain ⟨hi, e⟩ := List.getElem?_eq_some_iff.mp ha
    exact ⟨hi, by rw [List.getD_eq_getElem?_getD, ha]; rfl⟩
  have hrd : ∀ i, i < as.length → ∃ ps, Reads s.heap (.ref (as.getD i 0)) (fd (rs i) (ups i) (fs i)) ps := fun i hi => Dt.reads I (hD i hi).1 rfl
  refine call_minH (wpAny_pyIter_list hL ⟨s.heap.objs.size, _, _, _, _, _, fun i j => lexN false (rs i ++ ups i ++ fs i) (rs j ++ ups j ++ fs j), rfl, Walks.list (A := X.A.in1) (I.ok.hd hc) s.heap.objs.size p (Nat.ne_of_lt hlt) (as.map Value.ref).toArray, ⟨⟨_, Heap.get?_push_size _ rfl, rfl, rfl⟩, hL.push _⟩, fun b hb => ?_, fun b o g => Heap.get?_push_of_some _ g, by rw [Heap.size_push]; omega, fun b hb => ?_, by rw [hsz]; exact hpos, fun i j vi vj s' Q' E' ex hi hj hQ => ?_, fun v h' tk hP ex => ?_⟩)
  · rw [Heap.size_push]
    simp at hb
    rcases hb with rfl | rfl
    · exact Nat.lt_succ_self _
    · exact Nat.lt_succ_of_lt hlt
  · simp at hb
    subst hb
    cases g : s.heap.get? s.heap.objs.size with
    | none => rfl
    | some o => exact absurd (Heap.lt_size g) (Nat.lt_irrefl _)
  · obtain ⟨li, rfl⟩ := hval i vi hi
    obtain ⟨lj, rfl⟩ := hval j vj hj
    obtain ⟨pa, ra⟩ := hrd i li
    obtain ⟨pb, rb⟩ := hrd j lj
    obtain ⟨_, a1, a2, a3⟩ := hD i li
    obtain ⟨_, b1, b2, b3⟩ := hD j lj
    exact cmp_lt_fd (s := s') (Reads.keeps ex ra) (Reads.keeps ex rb) (by omega) (by omega) (by omega) (by show X.A.units + 1 + 30 < cLine; omega) X.prog X.w E' Q' hQ
  · obtain ⟨li, rfl⟩ := hval _ v hP
    obtain ⟨b1, b2⟩ := best_of (lt := fun i j => lexN false (rs i ++ ups i ++ fs i) (rs j ++ ups j ++ fs j)) (fun i => lexN_self false _) (fun i j k h1 h2 => lexN_tr h1 h2) ((as.map Value.ref).toArray.size - 1)
    refine ⟨.ref _, H, I.kept ex, rfl, q _ li fun j hj => b2 j (by rw [hsz]; omega)⟩
theorem layAll_mem : ∀ {ds : List PyData} {j : Nat} {d : PyData}, PyData.canLayAll0 ds = true → ds[j]? = some d → d.canLay0 = true
  | [], j, _, _, h => by simp at h
  | e :: ds, 0, d, h, g => by
    cases g
    have h : (e.canLay0 && PyData.canLayAll0 ds) = true := h
    exact (Bool.and_eq_true_iff.mp h).1
  | e :: ds, j + 1, d, h, g => by
    have h : (e.canLay0 && PyData.canLayAll0 ds) = true := h
    exact layAll_mem (Bool.and_eq_true_iff.mp h).2 (by simpa using g)
end
end L2
namespace K1
open PySem L2 Sq
/-- [make(k) for k in range(m)]: things newly laid -/
theorem compRangeR {Hc : Hp} {m : Nat} {ta : TA} {te : TE} {pull : List Nat} {Q : VK} {σ : St} {rest : St} (G : Nat → Addr → Hp → Prop) (mono : ∀ i a H H', Same H H' → G i a H → G i a H')
    (stab : ∀ i a H d (xs : List Addr) o, i < m → H d = some (.lst (xs.map V.ref)) → G i a H → G i a (upd H d o)) (hj : ∀ R : List V → Hp → Prop, R [.int (m : Int)] Hc → ta σ Hc R) (hb : bst 1 pull σ = none :: rest)
    (hte : ∀ (i : Nat) (H : Hp) (R : VK), i < m → Same Hc H → (∀ (H' : Hp) (a : Addr), Same H H' → G i a H' → R (.ref a) H') → te (some (.int (i : Int)) :: rest) H R) (hm : m ≤ 1000)
    (k : ∀ (H' : Hp) (d : Addr) (as : List Addr), Same Hc H' → Hc d = none → as.length = m → (∀ i, i < m → G i (as.getD i 0) H') → H' d = some (.lst (as.map V.ref)) → Q (.ref d) H') :
    tComp (iRng1 ta) 1 pull (gName 0) te σ Hc Q := by
  refine hj _ ⟨(m : Int), rfl, by omega, by omega, fun d hd => ?_⟩
  rw [Int.toNat_natCast, hb]
  refine comp_ex (J := Itr 0 m) (Q := fun d H' => Q (.ref d) H') m (fun i xs σ H9 => (∃ o, σ = o :: rest) ∧ Same Hc H9 ∧ ∃ as : List Addr, xs = as.map V.ref ∧ as.length = i ∧ ∀ j, j < i → G j (as.getD j 0) H9) ⟨⟨_, rfl⟩, same_upd (Same.refl _) hd, [], rfl, rfl, fun j h => absurd h (Nat.not_lt_zero _)⟩ ?_ ?_
  · rintro i xs σ H9 hi ⟨⟨o, rfl⟩, s9, as, rfl, la, hG⟩ hd9
    refine ⟨hi, fun x H4 ⟨e1, e2⟩ => ?_⟩
    subst e1 e2
    rw [show (0 : Int) + (i : Int) = (i : Int) from by omega]
    refine hte i _ _ hi s9 fun H5 a s5 ga => ?_
    refine xpost hi (s5 _ _ hd9) (by rw [List.length_map]; omega) ⟨⟨_, rfl⟩, same_upd (s9.trans s5) hd, as ++ [a], by rw [List.map_append]; rfl, by rw [List.length_append, la]; rfl, fun j hj => ?_⟩
    rcases Nat.lt_or_ge j i with c | c
    · have e : (as ++ [a]).getD j 0 = as.getD j 0 := by rw [List.getD_eq_getElem?_getD, List.getElem?_append_left (by omega), List.getD_eq_getElem?_getD]
      rw [e]
      exact stab j _ _ d as _ (by omega) (s5 _ _ hd9) (mono _ _ _ _ s5 (hG j c))
    · have e : j = i := by omega
      subst e
      have e : (as ++ [a]).getD j 0 = a := by rw [List.getD_eq_getElem?_getD, List.getElem?_append_right (by omega), la, Nat.sub_self]; rfl
      rw [e]
      exact stab j _ _ d as _ hi (s5 _ _ hd9) ga
  · rintro xs σ H9 ⟨⟨o, rfl⟩, s9, as, rfl, la, hG⟩ hd9
    exact ⟨Nat.le_refl _, k H9 d as s9 hd la hG hd9⟩
/-- [make(x) for x in l], l a list of things -/
theorem compListR {K : PySem.W.Frag} {Hc : Hp} {p : Addr} {bs : List Addr} {tl : TE} {te : TE} {pull : List Nat} {Q : VK} {σ : St} {rest : St} (G : Nat → Addr → Hp → Prop) (mono : ∀ i a H H', Same H H' → G i a H → G i a H')
    (stab : ∀ i a H d (xs : List Addr) o, i < bs.length → H d = some (.lst (xs.map V.ref)) → G i a H → G i a (upd H d o)) (hj : ∀ R : VK, R (.ref p) Hc → tl σ Hc R) (hp : Hc p = some (.lst (bs.map V.ref))) (hb : bst 1 pull σ = none :: rest)
    (hte : ∀ (i : Nat) (H : Hp) (R : VK), i < bs.length → Same Hc H → (∀ (H' : Hp) (a : Addr), Same H H' → G i a H' → R (.ref a) H') → te (some (.ref (bs.getD i 0)) :: rest) H R) (hm : bs.length ≤ 1000)
    (k : ∀ (H' : Hp) (d : Addr) (as : List Addr), Same Hc H' → Hc d = none → as.length = bs.length → (∀ i, i < bs.length → G i (as.getD i 0) H') → H' d = some (.lst (as.map V.ref)) → Q (.ref d) H') :
    tComp (iList K tl) 1 pull (gName 0) te σ Hc Q := by
  refine hj _ ⟨p, rfl, ⟨_, SqL.of hp⟩, fun d hd => ?_⟩
  rw [hb]
  refine comp_ex (J := Itl K p) (Q := fun d H' => Q (.ref d) H') bs.length (fun i xs σ H9 => (∃ o, σ = o :: rest) ∧ Same Hc H9 ∧ ∃ as : List Addr, xs = as.map V.ref ∧ as.length = i ∧ ∀ j, j < i → G j (as.getD j 0) H9) ⟨⟨_, rfl⟩, same_upd (Same.refl _) hd, [], rfl, rfl, fun j h => absurd h (Nat.not_lt_zero _)⟩ ?_ ?_
  · rintro i xs σ H9 hi ⟨⟨o, rfl⟩, s9, as, rfl, la, hG⟩ hd9
    have hq := SqL.of (K := K) (s9 _ _ hp)
    have hmi : (bs.map V.ref)[i]? = some (.ref (bs.getD i 0)) := by rw [List.getElem?_map, List.getElem?_eq_getElem hi, List.getD_eq_getElem?_getD, List.getElem?_eq_getElem hi]; rfl
    refine ⟨⟨_, _, hq, hmi⟩, fun y H4 ⟨e1, hy⟩ => ?_⟩
    subst e1
    have hy := hy _ hq
    rw [hmi] at hy
    cases hy
    refine hte i _ _ hi s9 fun H5 a s5 ga => ?_
    refine xpost hi (s5 _ _ hd9) (by rw [List.length_map]; omega) ⟨⟨_, rfl⟩, same_upd (s9.trans s5) hd, as ++ [a], by rw [List.map_append]; rfl, by rw [List.length_append, la]; rfl, fun j hj => ?_⟩
    rcases Nat.lt_or_ge j i with c | c
    · have e : (as ++ [a]).getD j 0 = as.getD j 0 := by rw [List.getD_eq_getElem?_getD, List.getElem?_append_left (by omega), List.getD_eq_getElem?_getD]
      rw [e]
      exact stab j _ _ d as _ (by omega) (s5 _ _ hd9) (mono _ _ _ _ s5 (hG j c))
    · have e : j = i := by omega
      subst e
      have e : (as ++ [a]).getD j 0 = a := by rw [List.getD_eq_getElem?_getD, List.getElem?_append_right (by omega), la, Nat.sub_self]; rfl
      rw [e]
      exact stab j _ _ d as _ hi (s5 _ _ hd9) ga
  · rintro xs σ H9 ⟨⟨o, rfl⟩, s9, as, rfl, la, hG⟩ hd9
    exact ⟨⟨_, SqL.of (s9 _ _ hp), by simp⟩, k H9 d as s9 hd la hG hd9⟩
theorem refs_nv {xs : List Addr} {f : List Nat} (h : xs.map V.ref = nv f) : f = [] := by
  cases f with
  | nil => rfl
  | cons y f => cases xs with
    | nil => cases h
    | cons x xs => cases h
theorem upd_tup {H : Hp} {d a : Addr} {xs : List V} {ys : List V} {o : HO} (hd : H d = some (.lst xs)) (ha : H a = some (.tup ys)) : (upd H d o) a = some (.tup ys) := by
  rw [upd_ne (fun e : a = d => by rw [e, hd] at ha; cases ha)]; exact ha
theorem upd_nv {H : Hp} {d a : Addr} {xs : List Addr} {f : List Nat} {o : HO} (hd : H d = some (.lst (xs.map V.ref))) (hf : f ≠ []) (ha : H a = some (.lst (nv f))) : (upd H d o) a = some (.lst (nv f)) := by
  rw [upd_ne (fun e : a = d => by rw [e, hd] at ha; exact hf (refs_nv (by injection ha with ha; injection ha)))]; exact ha
theorem upd_sh {H : Hp} {d a : Addr} {xs : List V} {r u : List Nat} {o : HO} (hd : H d = some (.lst xs)) (ha : ShAt H a r u) : ShAt (upd H d o) a r u := by
  obtain ⟨p, q, h1, h2, h3⟩ := ha
  exact ⟨p, q, upd_tup hd h1, upd_tup hd h2, upd_tup hd h3⟩
end K1
namespace L2
open PySem PySem.Spec PyProof.Rows
section
variable {X : Cx}
end
section
variable {P : Program} {w : World} {K : PySem.W.Frag} {mg : Str → Option Value} {base : Heap}
end
/-- what is called never raises -/
theorem passE0 {P : Program} {w : World} {X : Cx} : Passes (CX1 P w) X E0 := by rintro _ _ _ _ _ _ _ ⟨_, _, _, _, _, _, z⟩; exact z.elim
/-- what two branches share -/
theorem ite_rest {c : Prop} [Decidable c] {A : Prop} {N : St → Hp → Prop} {σ : St} {H : Hp} (Pv : St → Hp → Prop) (h0 : Pv σ H) (hr : ∀ σ H, Pv σ H → N σ H) (hA : (∀ σ H, Pv σ H → N σ H) → c → A) : if c then A else N σ H := by
  by_cases h : c
  · rw [if_pos h]; exact hA hr h
  · rw [if_neg h]; exact hr _ _ h0
end L2
namespace Sq
open L2
theorem Sheet.any {n : Nat} {r u : List Nat} (s : Sheet n r u) {T : Nat → Prop} {x0 : Nat} (h0 : x0 < n) (ht : T x0) (sh : Shut n r u T) : ∀ x, x < n → T x := by
  classical
  have M := (List.range n).filter fun x => decide (T x)
  have key : ∀ {row : List Nat}, Row n row → (∀ x, x < n → T x → T (nx row x)) → ∀ x, x < n → ¬ T x → ¬ T (nx row x) := fun {row} rr cl x hx hn z => by
    have := shut_compl (M := (List.range n).filter fun x => decide (T x)) rr (List.nodup_range.filter _) (fun x hx => List.mem_range.mp (List.mem_filter.mp hx).1)
      (fun y hy => by
        obtain ⟨h1, h2⟩ := List.mem_filter.mp hy
        have h1 := List.mem_range.mp h1
        exact List.mem_filter.mpr ⟨List.mem_range.mpr (rr.nlt h1), decide_eq_true (cl y h1 (of_decide_eq_true h2))⟩) hx (fun w => hn (of_decide_eq_true (List.mem_filter.mp w).2))
    exact this (List.mem_filter.mpr ⟨List.mem_range.mpr (rr.nlt hx), decide_eq_true z⟩)
  by_cases c : T 0
  · exact s.conn T c sh
  · have := s.conn (fun x => ¬ T x) c (fun x hx hn => ⟨key s.row (fun y hy ht => (sh y hy ht).1) x hx hn, key s.col (fun y hy ht => (sh y hy ht).2) x hx hn⟩) x0 h0
    exact absurd ht this
theorem Sheet.ren {n : Nat} {r u f : List Nat} (s : Sheet n r u) (hf : Row n f) : Sheet n (ren r f) (Sq.ren u f) where
  pos := s.pos
  most := s.most
  row := ren_row s.row hf
  col := ren_row s.col hf
  conn := fun T h0 sh x hx => by
    have := s.any (T := fun y => T (nx f y)) (hf.back.nlt s.pos) (by show T (nx f (nx (back f) 0)); rw [nx_back' hf s.pos]; exact h0) (fun y hy ht => by
      obtain ⟨h1, h2⟩ := sh (nx f y) (hf.nlt hy) ht
      rw [ren_at hf hy] at h1 h2
      exact ⟨h1, h2⟩) (nx (back f) x) (hf.back.nlt hx)
    rwa [nx_back' hf hx] at this
theorem put_map {n : Nat} {f M : List Nat} {y : Nat} (hf : Row n f) (lt : ∀ x ∈ M, x < n) (hy : y < n) : put (M.map (nx f)) (nx f y) = (put M y).map (nx f) := by
  unfold put
  by_cases c : y ∈ M
  · rw [if_pos c, if_pos (List.mem_map.mpr ⟨y, c, rfl⟩)]
  · rw [if_neg c, if_neg (fun w => by obtain ⟨x, hx, e⟩ := List.mem_map.mp w; exact c (hf.inj (lt x hx) hy e ▸ hx)), List.map_append]; rfl
theorem put_lt {n : Nat} {M : List Nat} {y : Nat} (lt : ∀ x ∈ M, x < n) (hy : y < n) : ∀ x ∈ put M y, x < n := fun x hx => by
  unfold put at hx
  split at hx
  · exact lt x hx
  · rcases List.mem_append.mp hx with h | h
    · exact lt x h
    · rw [List.mem_singleton.mp h]; exact hy
theorem bf_ren {n : Nat} {r u f : List Nat} {x : Nat} (hr : Row n r) (hu : Row n u) (hf : Row n f) (hx : x < n) : ∀ k, (∀ y ∈ bf r u x k, y < n) ∧ bf (ren r f) (ren u f) (nx f x) k = (bf r u x k).map (nx f)
  | 0 => ⟨fun y hy => by rw [List.mem_singleton.mp hy]; exact hx, rfl⟩
  | k + 1 => by
    obtain ⟨lt, ih⟩ := bf_ren hr hu hf hx k
    show (∀ y ∈ bstep r u (bf r u x k) k, y < n) ∧ bstep (ren r f) (ren u f) (bf (ren r f) (ren u f) (nx f x) k) k = (bstep r u (bf r u x k) k).map (nx f)
    rw [ih]
    unfold bstep
    rw [List.getElem?_map]
    cases e : (bf r u x k)[k]? with
    | none => exact ⟨lt, rfl⟩
    | some y =>
      have hy := lt y (List.mem_of_getElem? e)
      dsimp only [Option.map]
      refine ⟨put_lt (put_lt lt (hr.nlt hy)) (hu.nlt hy), ?_⟩
      rw [ren_at hf hy, ren_at hf hy, put_map hf lt (hr.nlt hy), put_map hf (put_lt lt (hr.nlt hy)) (hu.nlt hy)]
theorem order_ren {n : Nat} {r u f : List Nat} {x : Nat} (hr : Row n r) (hu : Row n u) (hf : Row n f) (hx : x < n) : order (ren r f) (ren u f) (nx f x) = (order r u x).map (nx f) := (bf_ren hr hu hf hx 100).2
theorem idx_map {n : Nat} {f : List Nat} (hf : Row n f) : ∀ {o : List Nat} {y : Nat}, (∀ x ∈ o, x < n) → y < n → (o.map (nx f)).idxOf (nx f y) = o.idxOf y
  | [], _, _, _ => rfl
  | x :: o, y, lt, hy => by
    rw [List.map_cons, List.idxOf_cons, List.idxOf_cons, idx_map hf (fun z hz => lt z (by simp [hz])) hy]
    by_cases e : x = y
    · rw [e]; simp
    · have : nx f x ≠ nx f y := fun z => e (hf.inj (lt x (by simp)) hy z)
      rw [show (nx f x == nx f y) = false from by simpa using this, show (x == y) = false from by simpa using e]
/-- the numbers of the squares, counted from x -/
def nbr (r u : List Nat) (x : Nat) : List Nat := back (order r u x)
def fkey (r u : List Nat) (x : Nat) : List Nat := ren r (nbr r u x) ++ ren u (nbr r u x)
def Least (n : Nat) (r u : List Nat) (x : Nat) : Prop := x < n ∧ Row n (nbr r u x) ∧ ∀ y, y < n → lexN false (fkey r u y ++ nbr r u y) (fkey r u x ++ nbr r u x) = false
theorem order_row {n : Nat} {r u : List Nat} {x : Nat} (s : Sheet n r u) (hx : x < n) : Row n (order r u x) := by
  have go : ∀ d k, n + 1 - k = d → Met n r u x (bf r u x k) k → Row n (order r u x) := by
    intro d
    induction d with
    | zero =>
      intro k hk h
      have := h.len
      exact (h.order s (by omega)).2
    | succ d ih =>
      intro k hk h
      by_cases c : (bf r u x k).length ≤ k
      · exact (h.order s c).2
      · obtain ⟨y, hy⟩ : ∃ y, (bf r u x k)[k]? = some y := ⟨_, List.getElem?_eq_getElem (by omega)⟩
        refine ih (k + 1) (by omega) ?_
        rw [bf_next hy]
        exact h.step s.row s.col hy
  exact go _ 0 rfl (Met.start hx)
theorem nbr_row {n : Nat} {r u : List Nat} {x : Nat} (s : Sheet n r u) (hx : x < n) : Row n (nbr r u x) := (order_row s hx).back
theorem nbr_ren {n : Nat} {r u f : List Nat} {x y : Nat} (s : Sheet n r u) (hf : Row n f) (hx : x < n) (hy : y < n) : nx (nbr (ren r f) (ren u f) (nx f x)) (nx f y) = nx (nbr r u x) y := by
  have ro := order_row s hx
  have ro' : Row n (order (ren r f) (ren u f) (nx f x)) := order_row (s.ren hf) (hf.nlt hx)
  unfold nbr
  rw [back_nx ro' (hf.nlt hy), back_nx ro hy, order_ren s.row s.col hf hx, idx_map hf ro.lt hy]
theorem ren_two {n : Nat} {r f g h : List Nat} (hr : Row n r) (hf : Row n f) (hg : Row n g) (hh : Row n h) (e : ∀ y, y < n → nx g (nx f y) = nx h y) : ren (ren r f) g = ren r h := by
  refine ext_row (n := n) (by rw [ren_len, hg.len]) (by rw [ren_len, hh.len]) fun i hi => ?_
  have hk := hh.back.nlt hi
  have ei : nx h (nx (back h) i) = i := nx_back' hh hi
  rw [← ei, ren_at hh hk, ← e _ hk, ren_at hg (hf.nlt hk), ren_at hf hk, e _ (hr.nlt hk)]
theorem fkey_ren {n : Nat} {r u f : List Nat} {x : Nat} (s : Sheet n r u) (hf : Row n f) (hx : x < n) : fkey (ren r f) (ren u f) (nx f x) = fkey r u x := by
  have h1 := nbr_row s hx
  have h2 := nbr_row (s.ren hf) (hf.nlt hx)
  unfold fkey
  rw [ren_two s.row hf h2 h1 fun y hy => nbr_ren s hf hx hy, ren_two s.col hf h2 h1 fun y hy => nbr_ren s hf hx hy]
theorem fkey_len {n : Nat} {r u : List Nat} {x : Nat} (s : Sheet n r u) (hx : x < n) : (fkey r u x).length = n + n := by
  have := nbr_row s hx
  unfold fkey; rw [List.length_append, ren_len, ren_len, this.len]
theorem lexN_pre {a b f g : List Nat} (h : a.length = b.length) (hh : lexN false (a ++ f) (b ++ g) = false) : lexN false a b = false := by
  rw [lexN_append false h] at hh
  by_cases e : a = b
  · rw [e, lexN_self]
  · rwa [if_neg e] at hh
theorem Least.le {n : Nat} {r u : List Nat} {x y : Nat} (s : Sheet n r u) (h : Least n r u x) (hy : y < n) : lexN false (fkey r u y) (fkey r u x) = false :=
  lexN_pre (by rw [fkey_len s hy, fkey_len s h.1]) (h.2.2 y hy)
theorem range_row (n : Nat) : Row n (List.range n) := ⟨List.length_range, List.nodup_range, fun _ h => List.mem_range.mp h⟩
theorem ren_id {n : Nat} {r : List Nat} (hr : Row n r) : ren r (List.range n) = r := by
  have hb : ∀ y, y < n → nx (List.range n) y = y := fun y hy => by show (List.range n).getD y 0 = y; rw [List.getD_eq_getElem?_getD, List.getElem?_range hy]; rfl
  refine ext_row (n := n) (by rw [ren_len]; simp) hr.len fun i hi => ?_
  have := ren_at (r := r) (range_row n) hi
  rw [hb i hi] at this
  rw [this, hb _ (hr.nlt hi)]
end Sq
namespace K1
open PySem L2 Sq
theorem minRoom {A : Around} {k : Nat} (hr : Room k A) : A.units + 40 < cLine := by
  have := hr.units
  omega
def spFw (K : PySem.W.Frag) : Sp := fun vs H Q _ => ∃ (a : Addr) (n : Nat) (r u : List Nat), vs = [.ref a] ∧ ShAt H a r u ∧ Sheet n r u ∧
  ∀ (H' : Hp) (x : Nat) (t b l : Addr), Least n r u x → Same H H' → H' t = some (.tup [.ref b, .ref l]) → ShAt H' b (ren r (nbr r u x)) (ren u (nbr r u x)) → H' l = some (.lst (nv (nbr r u x))) → Q (.ref t) H'
def spFm (K : PySem.W.Frag) : Sp := fun vs H Q _ => ∃ (a : Addr) (n : Nat) (r u : List Nat), vs = [.ref a] ∧ ShAt H a r u ∧ Sheet n r u ∧
  ∀ (H' : Hp) (x : Nat) (b : Addr), Least n r u x → Same H H' → ShAt H' b (ren r (nbr r u x)) (ren u (nbr r u x)) → Q (.ref b) H'
section
variable {P : Program} {w : World} {K : PySem.W.Frag} {mg : Str → Option Value} {base : Heap}
abbrev n_fw : List Str := ["sheet", "tried"]
theorem sc_fw : FnScope n_fw ["sheet"] (defScope sFormWithNumbering) := ⟨rfl, rfl, rfl, by decide +kernel, rfl, by decide +kernel, by decide +kernel⟩
theorem nd_fw : (["f", "sheet"] : List Str).Nodup := by decide +kernel
theorem nd_fw1 : (["first", "sheet"] : List Str).Nodup := by decide +kernel
theorem ok_fw {f fz fn fr : Addr} {fd dz dn dr : FuncData} {CN CR : Addr} (T : Bi mg) (T_min : mg "min" = none) (F : Fn K mg "form_with_numbering" sFormWithNumbering ["sheet"] f fd) (FZ : Fn K mg "size" sSize ["sheet"] fz dz) (GZ : FnOk P w K mg base CX0 1 fz dz ["sheet"] spSize)
    (FN : Fn K mg "numbering" sNumbering ["sheet", "first"] fn dn) (GN : FnOk P w K mg base (CX1 P w) 4 fn dn ["sheet", "first"] (spNumb CN))
    (FR : Fn K mg "renumbered" sRenumbered ["sheet", "f"] fr dr) (GR : FnOk P w K mg base (CX1 P w) 5 fr dr ["sheet", "f"] (spRenG K CR)) : FnOk P w K mg base CX0 6 f fd ["sheet"] (spFw K) := by
  refine F.F.ok sc_fw (fun vs H Q E h => ?_) (fun cdv A outer s H vs Q E hr h => ?_)
  · obtain ⟨a, n, r, u, rfl, _⟩ := h; rfl
  · obtain ⟨a, n, r, u, rfl, hsh, hS, k⟩ := h
    have hr1 : Room 1 _ := hr.mono (by decide)
    have hr4 : Room 4 _ := hr.mono (by decide)
    have hr5 : Room 5 _ := hr.mono (by decide)
    refine ⟨_, (pss_cons (ps_comp (j := 1) (N := n_fw) (names := (defScope sFormWithNumbering).names) (N' := ["first", "sheet"]) (k := 1) (pull := [0]) (te := (tCall (spNumb CN) [] E0 (tCons (tVar 1) (tCons (tVar 0) tNil)))) rfl sc_fw.nd rfl rfl ⟨by rfl, by decide +kernel, by decide +kernel, by rfl, by decide +kernel, by decide +kernel⟩ rfl rfl (pi_range1 rfl T.range (pa_cons (pe_call GZ hr1 rfl FZ.m FZ.F.kp FZ.b .nil pass0 (pa_cons (pv 0) pa_nil)) pa_nil)) (fun _ _ _ _ _ _ => pg_name (i := 0) nd_fw1 rfl (Or.inl rfl)) (fun _ _ _ _ _ _ => (pe_call GN hr4 rfl FN.m FN.F.kp FN.b .nil passE0 (pa_cons (pv 1) (pa_cons (pv 0) pa_nil)))))
      (pss_one (ps_ret (pe_callB (call_minF rfl) rfl T_min boot_min (pa_cons (pe_comp (N := n_fw) (names := (defScope sFormWithNumbering).names) (N' := ["f", "sheet"]) (k := 1) (pull := [0]) (te := (tTup (tCons (tCall (spRenG K CR) [] E0 (tCons (tVar 1) (tCons (tVar 0) tNil))) (tCons (tVar 0) tNil)))) rfl ⟨by rfl, by decide +kernel, by decide +kernel, by rfl, by decide +kernel, by decide +kernel⟩ rfl rfl (pi_list (pv 1)) (fun _ _ _ _ _ _ => pg_name (i := 0) nd_fw rfl (Or.inl rfl)) (fun _ _ _ _ _ _ => (pe_tup (pa_cons (pe_call GR hr5 rfl FR.m FR.F.kp FR.b .nil passE0 (pa_cons (pv 1) (pa_cons (pv 0) pa_nil))) (pa_cons (pv 0) pa_nil))))) pa_nil))))), ?_⟩
    have hm := hS.most
    have hn1 := hS.pos
    dsimp only [tSeq, tAsg]
    refine compRangeR (m := n) (rest := [some (.ref a)]) (fun i l H => Row n (nbr r u i) ∧ H l = some (.lst (nv (nbr r u i)))) (fun i l H H' s h => ⟨h.1, s _ _ h.2⟩) (fun i l H d xs o hi hd h => ⟨h.1, upd_nv hd (fun z => by have := h.1.len; rw [z] at this; simp at this; omega) h.2⟩)
      (fun R hR => ⟨_, rfl, a, r, u, rfl, hsh, by rw [hS.row.len]; exact hR⟩) rfl (fun i H2 R hi s2 hR => ?_) (by omega) fun H3 d ls s3 hd0 ll hG hd => ?_
    · refine ⟨_, rfl, _, rfl, a, n, r, u, (i : Int), rfl, hsh.same s2, hS, fun z => ?_, fun x hx hxn ro H4 l s4 hl0 hl => ?_⟩
      · exact absurd z (by unfold isSq; rw [decide_eq_true ⟨by omega, by omega⟩]; decide)
      · have ex : i = x := by omega
        subst ex
        exact hR _ l s4 ⟨ro.back, hl⟩
    · dsimp only [gName, tRet, tCB, tCons]
      refine compListR (bs := ls) (rest := [some (.ref a)]) (fun i t H => ∃ b, H t = some (.tup [.ref b, .ref (ls.getD i 0)]) ∧ ShAt H b (ren r (nbr r u i)) (ren u (nbr r u i))) (fun i t H H' s ⟨b, h1, h2⟩ => ⟨b, s _ _ h1, h2.same s⟩) (fun i t H d xs o hi hd ⟨b, h1, h2⟩ => ⟨b, upd_tup hd h1, upd_sh hd h2⟩)
        (fun R hR => ⟨_, rfl, hR⟩) hd rfl (fun i H2 R hi s2 hR => ?_) (by omega) fun H5 e ts s5 he0 lt hT he => ?_
      · obtain ⟨rn, hl⟩ := hG i (by omega)
        have hl2 := s2 _ _ hl
        refine ⟨_, rfl, _, rfl, a, _, n, r, u, _, rfl, hsh.same (s3.trans s2), hS.row, hS.col, hm, .inl (SqL.of hl2), fun y hy => ?_, by rw [nv_len, rn.len]; omega, fun z => absurd ⟨_, rfl, rn⟩ z, fun f hf rf H4 b s4 hb => ?_⟩
        · obtain ⟨y', _, rfl⟩ := List.mem_map.mp hy
          exact .int _
        have ef : nbr r u i = f := nv_inj hf
        subst ef
        refine ⟨_, rfl, (by show 2 ≤ sizeLine; decide), fun t ht => ?_⟩
        have u5 := same_upd (o := .tup [.ref b, .ref (ls.getD i 0)]) (Same.refl H4) ht
        exact hR _ t (s4.trans u5) ⟨b, upd_same, hb.same u5⟩
      · refine ⟨e, ts, n, fun i => ren r (nbr r u i), fun i => ren u (nbr r u i), fun i => nbr r u i, rfl, SqL.of he, fun z => ?_, ?_, fun i hi => ?_, fun x hx hbest => ?_⟩
        · rw [z] at lt; simp at lt; omega
        · exact minRoom hr
        · obtain ⟨b, h1, h2⟩ := hT i (by omega)
          obtain ⟨rn, hl⟩ := hG i (by omega)
          exact ⟨.tup (SqT.of h1) (.cons h2.dt (.cons (.lst (SqL.of (s5 _ _ hl)) (nd_all _)) .nil)), (ren_row hS.row rn).len, (ren_row hS.col rn).len, rn.len⟩
        · obtain ⟨b, h1, h2⟩ := hT x (by omega)
          obtain ⟨rn, hl⟩ := hG x (by omega)
          exact k H5 x _ b _ ⟨by omega, rn, fun y hy => hbest y (by omega)⟩ (s3.trans s5) h1 h2 (s5 _ _ hl)
end
end K1
namespace K1
open PySem L2 Sq
section
variable {P : Program} {w : World} {K : PySem.W.Frag} {mg : Str → Option Value} {base : Heap}
abbrev n_fm : List Str := ["sheet"]
theorem sc_fm : FnScope n_fm ["sheet"] (defScope sForm) := ⟨rfl, rfl, rfl, by decide +kernel, rfl, by decide +kernel, by decide +kernel⟩
theorem ok_fm {f fw : Addr} {fd dw : FuncData} (F : Fn K mg "form" sForm ["sheet"] f fd) (FW : Fn K mg "form_with_numbering" sFormWithNumbering ["sheet"] fw dw) (GW : FnOk P w K mg base CX0 6 fw dw ["sheet"] (spFw K)) : FnOk P w K mg base CX0 7 f fd ["sheet"] (spFm K) := by
  refine F.F.ok sc_fm (fun vs H Q E h => ?_) (fun cdv A outer s H vs Q E hr h => ?_)
  · obtain ⟨a, n, r, u, rfl, _⟩ := h; rfl
  · obtain ⟨a, n, r, u, rfl, hsh, hS, k⟩ := h
    have hr1 : Room 1 _ := hr.mono (by decide)
    have hr6 : Room 6 _ := hr.mono (by decide)
    refine ⟨_, (pss_one (ps_ret (pe_ix ix_tup (pe_call GW hr6 rfl FW.m FW.F.kp FW.b .nil pass0 (pa_cons (pv 0) pa_nil)) pe_int (fun _ _ => rfl)))), ?_⟩
    exact ⟨_, rfl, a, n, r, u, rfl, hsh, hS, fun H' x t b l hx s ht hb hl => ⟨t, _, 0, _, rfl, rfl, SqT.of ht, atI_nat (j := 0) rfl, k H' x b hx s hb⟩⟩
end
end K1
namespace L2
open PySem PySem.Spec PyProof.Rows
section
variable {P : Program} {w : World} {K : Type} [DecidableEq K] (knd : KeyKind P w K)
/-- the items are tuples, each with its numbers -/
inductive Its2 (h : Heap) : List (List K) → List Value → Prop
  | nil : Its2 h [] []
  | cons {k : List K} {b : Addr} {ks : List (List K)} {vs : List Value} : IsTupleKey knd h k b → Its2 h ks vs → Its2 h (k :: ks) (.ref b :: vs)
/-- a tuple of such -/
def Is2 (h : Heap) (ks : List (List K)) (a : Addr) : Prop := ∃ o items n, h.get? a = some o ∧ o.cls = .type "tuple" ∧ o.data = .seq items n ∧ Its2 knd h ks items.toList
variable {knd}
theorem Its2.inj {h : Heap} : ∀ {x y : List (List K)} {vs : List Value}, Its2 knd h x vs → Its2 knd h y vs → x = y
  | _, _, _, .nil, .nil => rfl
  | _, _, _, .cons a t, .cons b u => by rw [a.inj b, Its2.inj t u]
theorem Its2.moved {h h' : Heap} (f : ∀ k b, IsTupleKey knd h k b → IsTupleKey knd h' k b) : ∀ {x : List (List K)} {vs : List Value}, Its2 knd h x vs → Its2 knd h' x vs
  | _, _, .nil => .nil
  | _, _, .cons a t => .cons (f _ _ a) (t.moved f)
theorem Is2.ty {s : Shared} {ks : List (List K)} {a : Addr} (x : Is2 knd s.heap ks a) : s.TypeIs (.ref a) "tuple" := let ⟨o, _, _, ho, hc, _⟩ := x; ⟨o, ho, hc⟩
theorem Is2.inj {h : Heap} {a : Addr} {x y : List (List K)} (hx : Is2 knd h x a) (hy : Is2 knd h y a) : x = y := by
  obtain ⟨o, i, n, ho, _, hd, hi⟩ := hx
  obtain ⟨o', i', n', ho', _, hd', hi'⟩ := hy
  rw [ho] at ho'; cases ho'
  rw [hd] at hd'; cases hd'
  exact hi.inj hi'
theorem Is2.keeps {h h' : Heap} {ks : List (List K)} {a d : Addr} {o : Obj} {es ep} (x : Is2 knd h ks a) (ho : h.get? d = some o) (hd : o.data = .dict es ep) (hs : Heap.SameBut d h h') : Is2 knd h' ks a := by
  obtain ⟨o', items, n, ho', hc, hd', hi⟩ := x
  have hne : a ≠ d := by
    rintro rfl
    rw [ho] at ho'; cases ho'
    rw [hd] at hd'; exact nomatch hd'
  exact ⟨o', items, n, (hs.2 a hne).trans ho', hc, hd', hi.moved fun _ _ y => y.keeps ho hd hs⟩
/-- its hash; the tokens it draws -/
def hash2 (knd : KeyKind P w K) (ks : List (List K)) : Int := reduceHash (Builtin.Tuple.tupleHashOf (ks.map (tupleKeyHash knd)))
def draw2 (ks : List (List K)) : Nat := (ks.map fun k => k.length + 1).sum
variable {A : Around} {E : Value → Shared → Prop} {s : Shared}
theorem hash_2 {ks : List (List K)} {a : Addr} {Q : Int → Shared → Prop} (hu : A.units + 1 < cLine) (hk : Is2 knd s.heap ks a) (h : Q (hash2 knd ks) { s with toks := s.toks + (draw2 ks + 1) }) :
    wpAny (model P w) A (pyHash (.ref a)) Q E s := by
  have hT := hk.ty
  obtain ⟨o, items, n, ho, _, hd, hi⟩ := hk
  unfold pyHash
  first | unfold pyHashByItsType | skip
  first | refine wpAny_bind (wpAny_cRoomFor_or (.inr (by omega)) ?_) | skip
  refine wpAny_bind (wpAny_specialOf hT F.slot_tuple_hash.lookup ?_)
  show wpAny _ _ (if (some (Value.builtin "tuple.__hash__") == some Value.none) = true then _ else _) Q E s
  rw [if_neg (by rw [beq_builtin_none]; exact Bool.false_ne_true)]
  refine wpAny_bind (wpAny_specialOf hT F.slot_tuple_hash.lookup ?_)
  show wpAny _ _ (callSpecialIfBoundUnlessNone? (.ref a) "__hash__" _ >>= _) Q E s
  refine wpAny_bind (wpAny_callSpecialIfBoundUnlessNone?_slot hT F.slot_tuple_hash (wpAny_call_entry F.slot_tuple_hash hT F.entry_tuple_hash ?_ (F.args_tuple_hash_1 _)))
  show wpAny _ _ (Builtin.Tuple.tupleItemsOf (.ref a) >>= _) _ _ s
  refine wpAny_bind (wpAny_tupleItemsOf ho hd ?_)
  refine wpAny_bind ?_
  rw [← Array.forIn_toList]
  refine wpAny_forIn_list _
    (fun rest (b : Array Int) s' => ∃ done left, ks = done ++ left ∧ Its2 knd s.heap left rest ∧ b.toList = done.map (tupleKeyHash knd) ∧ s' = { s with toks := s.toks + draw2 done })
    _ ?_ ?_ _ _ ⟨[], ks, rfl, hi, rfl, rfl⟩
  · rintro x rest b s' ⟨done, left, rfl, hl, hb, rfl⟩
    cases hl with
    | @cons k _ ks' _ h1 hl' =>
      refine wpAny_bind (wpAny_pyHash_tuple hu h1 ?_)
      have e : ({ s with toks := s.toks + draw2 done + (k.length + 1) } : Shared) = { s with toks := s.toks + draw2 (done ++ [k]) } := by
        simp [draw2, Nat.add_assoc]
      first
        | exact wpAny_pure ⟨done ++ [k], ks', by simp, hl', by simp [hb], e⟩
        | exact wpAny_bind (wpAny_pure (wpAny_pure ⟨done ++ [k], ks', by simp, hl', by simp [hb], e⟩))
  · rintro b s' ⟨done, left, rfl, hl, hb, rfl⟩
    cases hl
    rw [List.append_nil] at h
    show wpAny _ _ (retInt (Builtin.Tuple.tupleHashOf b.toList)) _ _ _
    rw [hb]
    refine wpAny_ret_mkInt ?_
    show wpAny _ _ (if (decide (-(2 : Int) ^ 63 ≤ Builtin.Tuple.tupleHashOf (done.map (tupleKeyHash knd))) && decide (Builtin.Tuple.tupleHashOf (done.map (tupleKeyHash knd)) < 2 ^ 63)) = true then _ else _) Q E _
    unfold hash2 reduceHash at h
    by_cases hr : (decide (-(2 : Int) ^ 63 ≤ Builtin.Tuple.tupleHashOf (done.map (tupleKeyHash knd))) && decide (Builtin.Tuple.tupleHashOf (done.map (tupleKeyHash knd)) < 2 ^ 63)) = true
    · rw [if_pos hr]
      rw [if_pos hr] at h
      exact wpAny_pure (by simpa [Nat.add_assoc] using h)
    · rw [if_neg hr]
      rw [if_neg hr] at h
      exact wpAny_bind (wpAny_rule (wpAny_pure (by simpa [Nat.add_assoc] using h)))
theorem tree_2 {x y : List (List K)} {a b : Addr} {R : Fin → Shared → Prop} (hu : A.units < cLine) (hx : Is2 knd s.heap x a) (hy : Is2 knd s.heap y b) (h : R (.done (.ret (.bool (decide (x = y))))) s) :
    wpAny (model P w) A (Builtin.«tuple.__eq__» ⟨[.ref a, .ref b], []⟩) R E s := by
  have hTb := hy.ty
  obtain ⟨oa, xs, na, hoa, _, hda, hia⟩ := hx
  obtain ⟨ob, ys, nb, hob, _, hdb, hib⟩ := hy
  show wpAny _ _ (isInstance (.ref b) (.type "tuple") >>= _) _ _ s
  refine wpAny_bind (wpAny_isInstance hTb isSubtype_tuple_tuple ?_)
  simp only [Bool.not_true, Bool.false_eq_true, if_false]
  refine wpAny_bind (wpAny_tupleItemsOf hoa hda ?_)
  refine wpAny_bind (wpAny_tupleItemsOf hob hdb ?_)
  refine wpAny_bind ?_
  refine wpAny_forIn_list _
    (fun rest r s' => r.1 = none ∧ s' = s ∧ ∃ x' y' xs' ys', rest = List.zip xs' ys' ∧ Its2 knd s.heap x' xs' ∧ Its2 knd s.heap y' ys' ∧ decide (x' = y') = decide (x = y) ∧ (xs'.length == ys'.length) = (xs.size == ys.size))
    _ ?_ ?_ _ _ ⟨rfl, rfl, x, y, xs.toList, ys.toList, rfl, hia, hib, rfl, by simp⟩
  · rintro ⟨u, v⟩ rest r s' ⟨hr, rfl, x', y', xs', ys', hz, hx', hy', hdec, hlen⟩
    cases hx' with
    | nil => simp at hz
    | @cons k1 b1 x'' xs'' h1 hx'' =>
      cases hy' with
      | nil => simp at hz
      | @cons k2 b2 y'' ys'' h2 hy'' =>
        simp only [List.zip_cons_cons, List.cons.injEq, Prod.mk.injEq] at hz
        obtain ⟨⟨rfl, rfl⟩, rfl⟩ := hz
        refine wpAny_bind (wpAny_eqBool_tuple hu h1 h2 ?_)
        by_cases hk : k1 = k2
        · subst hk
          rw [decide_eq_true rfl]
          simp only [Bool.not_true, Bool.false_eq_true, if_false]
          refine wpAny_pure ⟨rfl, rfl, x'', y'', xs'', ys'', rfl, hx'', hy'', ?_, by simpa using hlen⟩
          rw [← hdec]
          by_cases hxy : x'' = y''
          · simp [hxy]
          · simp [hxy]
        · rw [decide_eq_false hk]
          simp only [Bool.not_false, if_true]
          have hf : decide (x = y) = false := by rw [← hdec]; simp [hk]
          rw [hf] at h
          exact wpAny_bind (wpAny_pure (wpAny_pure (wpAny_pure h)))
  · rintro ⟨r1, r2⟩ s' ⟨hr, rfl, x', y', xs', ys', hz, hx', hy', hdec, hlen⟩
    simp only at hr
    subst hr
    refine wpAny_pure ?_
    have hfin : (xs.size == ys.size) = decide (x = y) := by
      rw [← hdec, ← hlen]
      cases hx' with
      | nil =>
        cases hy' with
        | nil => simp
        | cons _ _ => simp
      | cons _ _ =>
        cases hy' with
        | nil => simp
        | cons _ _ => simp at hz
    show R (.done (.ret (.bool (xs.size == ys.size)))) s'
    rw [hfin]; exact h
theorem eq_2 {x y : List (List K)} {a b : Addr} {Q : Bool → Shared → Prop} (hu : A.units + 1 < cLine) (hx : Is2 knd s.heap x a) (hy : Is2 knd s.heap y b) (h : Q (decide (x = y)) s) :
    wpAny (model P w) A (eqBool (.ref a) (.ref b)) Q E s := by
  unfold eqBool
  try with_reducible refine wpAny_holding ?_
  show wpAny _ _ (if (Value.ref a == Value.ref b) = true then _ else _) Q E s
  by_cases hab : (Value.ref a == Value.ref b) = true
  · rw [if_pos hab]
    have e : a = b := by have := eq_of_beq hab; injection this
    subst e
    obtain rfl := hx.inj hy
    exact wpAny_bind (wpAny_rule (wpAny_pure (by simpa using h)))
  · rw [if_neg hab]
    exact wpAny_bind (wpAny_richCompare_same_room (op := .Eq) hx.ty hy.ty F.slot_tuple_eq
      (wpAny_call_entry F.slot_tuple_eq hx.ty F.entry_tuple_eq (tree_2 hu hx hy ⟨_, rfl, (fun e => nomatch e), wpAny_truthy_bool h⟩) (F.args_tuple_eq_2 _ _)) (by omega))
/-- a tuple of numbers is quiet at any depth but none -/
theorem quiet_1 {ks : List K} {a : Addr} {m : Nat} {Q : Bool → Shared → Prop} (hk : IsTupleKey knd s.heap ks a) (h : Q true s) : wpAny (model P w) A (eqIsQuiet (m + 1) (.ref a)) Q E s := by
  have hT := hk.typeIs
  obtain ⟨o, items, n, ho, _, hd, hi⟩ := hk
  unfold eqIsQuiet
  refine wpAny_bind (wpAny_specialOf hT F.slot_tuple_eq.lookup ?_)
  show wpAny _ _ (isInstance (.ref a) (.type "tuple") >>= _) _ _ s
  refine wpAny_bind (wpAny_isInstance hT isSubtype_tuple_tuple ?_)
  simp only [Bool.not_true, Bool.false_eq_true, if_false]
  refine wpAny_bind (wpAny_seqItems ho hd ?_)
  refine wpAny_bind ?_
  show wpAny _ _ (forIn items _ _) _ _ s
  rw [← Array.forIn_toList]
  refine wpAny_forIn_list _ (fun rest r s' => r.1 = none ∧ s' = s ∧ ∀ v ∈ rest, carriedByValue v = true) _ ?_ ?_ _ _ ⟨rfl, rfl, hi.byValue⟩
  · rintro v rest r s' ⟨hr, rfl, hall⟩
    rw [eqIsQuiet_byValue _ (hall v List.mem_cons_self)]
    refine wpAny_bind (wpAny_pure ?_)
    simp only [Bool.not_true, Bool.false_eq_true, if_false]
    exact wpAny_pure ⟨rfl, rfl, fun u hu' => hall u (List.mem_cons_of_mem _ hu')⟩
  · rintro ⟨r1, r2⟩ s' ⟨hr, rfl, _⟩
    simp only at hr
    subst hr
    exact wpAny_pure h
theorem quiet_2 {ks : List (List K)} {a : Addr} {Q : Bool → Shared → Prop} (hk : Is2 knd s.heap ks a) (h : Q true s) : wpAny (model P w) A (eqIsQuiet 8 (.ref a)) Q E s := by
  have hT := hk.ty
  obtain ⟨o, items, n, ho, _, hd, hi⟩ := hk
  unfold eqIsQuiet
  refine wpAny_bind (wpAny_specialOf hT F.slot_tuple_eq.lookup ?_)
  show wpAny _ _ (isInstance (.ref a) (.type "tuple") >>= _) _ _ s
  refine wpAny_bind (wpAny_isInstance hT isSubtype_tuple_tuple ?_)
  simp only [Bool.not_true, Bool.false_eq_true, if_false]
  refine wpAny_bind (wpAny_seqItems ho hd ?_)
  refine wpAny_bind ?_
  show wpAny _ _ (forIn items _ _) _ _ s
  rw [← Array.forIn_toList]
  refine wpAny_forIn_list _ (fun rest r s' => r.1 = none ∧ s' = s ∧ ∃ ks, Its2 knd s.heap ks rest) _ ?_ ?_ _ _ ⟨rfl, rfl, ks, hi⟩
  · rintro v rest r s' ⟨hr, rfl, ks', hl⟩
    cases hl with
    | cons h1 hl' =>
      refine wpAny_bind (quiet_1 (m := 6) h1 ?_)
      simp only [Bool.not_true, Bool.false_eq_true, if_false]
      exact wpAny_pure ⟨rfl, rfl, _, hl'⟩
  · rintro ⟨r1, r2⟩ s' ⟨hr, rfl, _⟩
    simp only at hr
    subst hr
    exact wpAny_pure h
end
/-- tuples of tuples as keys -/
def kind2 {P : Program} {w : World} {K : Type} [DecidableEq K] (knd : KeyKind P w K) : HeapKind P w (List (List K)) where
  is := Is2 knd
  hash := hash2 knd
  draws := fun ks => draw2 ks + 1
  room := fun A => A.units + 1 < cLine
  inj := fun hx hy => hx.inj hy
  keeps := fun x ho hd hs => x.keeps ho hd hs
  pyHash := fun hu hk h => hash_2 hu hk h
  eqBool := fun hu hx hy h => eq_2 hu hx hy h
  quiet := fun hk h => quiet_2 hk h
end L2
namespace L2
open PySem PySem.Spec PyProof.Rows
def rk (r : List Nat) : List Key := r.map fun (n : Nat) => Sum.inl (n : Int)
def skey (x : List Nat × List Nat) : List (List Key) := [rk x.1, rk x.2]
theorem rk_nv (r : List Nat) : (rk r).map kV = nv r := by
  unfold rk nv
  rw [List.map_map]
  rfl
theorem rk_inj : ∀ {r u : List Nat}, rk r = rk u → r = u
  | [], [], _ => rfl
  | [], _ :: _, e => by simp [rk] at e
  | _ :: _, [], e => by simp [rk] at e
  | a :: r, b :: u, e => by
    have e : (Sum.inl (a : Int) : Key) :: rk r = Sum.inl (b : Int) :: rk u := e
    injection e with e1 e2
    injection e1 with e1
    rw [rk_inj e2, show a = b by omega]
theorem skey_inj {x y : List Nat × List Nat} (e : skey x = skey y) : x = y := by
  unfold skey at e
  injection e with e1 e2
  injection e2 with e2 _
  exact Prod.ext (rk_inj e1) (rk_inj e2)
def ent (xs : List ((List Nat × List Nat) × Addr)) : List (List (List Key) × Addr × Value) := xs.map fun x => (skey x.1, x.2, Value.bool true)
theorem ent_keys (xs : List ((List Nat × List Nat) × Addr)) : (ent xs).map (·.1) = (xs.map (·.1)).map skey := by unfold ent; rw [List.map_map, List.map_map]; rfl
theorem ent_nodup {xs : List ((List Nat × List Nat) × Addr)} (h : (xs.map (·.1)).Nodup) : ((ent xs).map (·.1)).Nodup := by
  rw [ent_keys]
  exact List.pairwise_map.mpr (List.Pairwise.imp (fun hne e => hne (skey_inj e)) h)
theorem ent_at (xs : List ((List Nat × List Nat) × Addr)) (x : List Nat × List Nat) : (atKey (ent xs) (skey x)).isSome = xs.any fun z => decide (z.1 = x) := by
  induction xs with
  | nil => rfl
  | cons z zs ih =>
    by_cases e : z.1 = x
    · have b : atKey (ent (z :: zs)) (skey x) = some (z.2, Value.bool true) := by simp [atKey, ent, List.find?_cons, e]
      rw [b]; simp [e]
    · have e' : ¬ skey z.1 = skey x := fun q => e (skey_inj q)
      have b : atKey (ent (z :: zs)) (skey x) = atKey (ent zs) (skey x) := by simp [atKey, ent, List.find?_cons, e']
      rw [b, ih]; simp [e]
section
variable (P : Program) (w : World)
def isDS (a : Addr) (xs : List ((List Nat × List Nat) × Addr)) (h : Heap) : Prop := xs.length ≤ sizeLine ∧ (a == sysModules) = false ∧
  ∃ o es ep, h.get? a = some o ∧ o.ExactDict ∧ o.data = .dict es ep ∧ es.toList = (ent xs).map (entryOfKey (kind2 (mixKind P w))) ∧ (xs.map (·.1)).Nodup
def dS (a : Addr) (xs : List ((List Nat × List Nat) × Addr)) : HO := .ext (isDS P w a xs)
/-- the dict at a has the keys xs; they stand where they stood when they were put in -/
def DS (H : Hp) (a : Addr) (xs : List ((List Nat × List Nat) × Addr)) : Prop := ((xs = [] ∧ H a = some (.dK [])) ∨ H a = some (dS P w a xs)) ∧ ∀ x ∈ xs, ShAt H x.2 x.1.1 x.1.2
end
section
variable {P : Program} {w : World} {H H' : Hp} {h : Heap} {a : Addr} {xs : List ((List Nat × List Nat) × Addr)}
theorem DS.same (e : Same H H') (d : DS P w H a xs) : DS P w H' a xs := ⟨d.1.elim (fun z => .inl ⟨z.1, e _ _ z.2⟩) fun z => .inr (e _ _ z), fun x hx => (d.2 x hx).same e⟩
theorem DS.nil (e : H a = some (.dK [])) : DS P w H a [] := ⟨.inl ⟨rfl, e⟩, fun x hx => nomatch hx⟩
theorem DS.ne {b : Addr} {ys : List V} (d : DS P w H a xs) (e : H b = some (.tup ys)) : b ≠ a := by
  rintro rfl
  rcases d.1 with ⟨_, z⟩ | z <;> rw [e] at z <;> cases z
/-- what is no part of it may be written -/
theorem DS.away {b : Addr} {o : HO} (d : DS P w H a xs) (hb : b ≠ a) (ht : ∀ ys, H b ≠ some (.tup ys)) : DS P w (upd H b o) a xs := by
  have f : ∀ c ys, H c = some (.tup ys) → upd H b o c = some (.tup ys) := fun c ys e => by
    rw [upd_ne (fun z => ht ys (by rw [← z]; exact e))]; exact e
  refine ⟨?_, fun x hx => ?_⟩
  · rw [upd_ne hb.symm]; exact d.1
  · obtain ⟨p, q, h1, h2, h3⟩ := d.2 x hx
    exact ⟨p, q, f _ _ h1, f _ _ h2, f _ _ h3⟩
theorem isDS.of (ok : HOk P w H h) (d : DS P w H a xs) : isDS P w a xs h := by
  rcases d.1 with ⟨rfl, e⟩ | e
  · obtain ⟨z, y, vs, r, o, es, ep, h1, h2, h3, h4, h5, h6⟩ := dk_of ok e
    cases r
    generalize hl : es.toList = l at h5
    cases h5
    exact ⟨Nat.zero_le _, y, o, es, ep, h1, h2, h3, hl, List.nodup_nil⟩
  · exact (show ObjOk P w H h a (dS P w a xs) from ok a _ e).1
theorem ShAt.is2 {b : Addr} {r u : List Nat} (ok : HOk P w H h) (e : ShAt H b r u) : Is2 (mixKind P w) h (skey (r, u)) b := by
  obtain ⟨p, q, h1, h2, h3⟩ := e
  obtain ⟨_, its, rv, o, g1, g2, n, g3⟩ := (show ObjOk P w H h b (.tup [.ref p, .ref q]) from ok b _ h1)
  have k1 : IsTupleKey (mixKind P w) h (rk r) p := key_of ok (by rw [rk_nv]; exact h2)
  have k2 : IsTupleKey (mixKind P w) h (rk u) q := key_of ok (by rw [rk_nv]; exact h3)
  refine ⟨o, its.toArray, n, g1, g2, g3, ?_⟩
  rw [List.toList_toArray]
  cases rv with
  | cons a1 t =>
    cases t with
    | cons a2 t2 =>
      cases t2
      cases a1
      cases a2
      exact .cons k1 (.cons k2 .nil)
theorem DS.dict (ok : HOk P w H h) (d : DS P w H a xs) : (a == sysModules) = false ∧ xs.length ≤ sizeLine ∧ h.DictOfH (kind2 (mixKind P w)) a (ent xs) ∧ (xs.map (·.1)).Nodup := by
  obtain ⟨z, y, o, es, ep, h1, h2, h3, h4, h5⟩ := isDS.of ok d
  refine ⟨y, z, ⟨o, es, ep, h1, h2, h3, h4, fun x hx => ?_, ent_nodup h5⟩, h5⟩
  obtain ⟨x', hx', rfl⟩ := List.mem_map.mp hx
  exact (d.2 x' hx').is2 ok
end
section
variable {X : Cx} {o i e value : Expr} {pos pos' tpos : Pos} {td ty tv : TE}
/-- a sheet among a dict's keys -/
def rInS (P : Program) (w : World) (A : Around) : R2 := fun x y H Q => ∃ (a b : Addr) (xs : List ((List Nat × List Nat) × Addr)) (r u : List Nat), x = .ref b ∧ y = .ref a ∧ DS P w H a xs ∧ ShAt H b r u ∧ A.units + 2 < cLine ∧ Q (.bl (xs.any fun z => decide (z.1 = (r, u)))) H
theorem op_inS : OpR X (compareOp .In) (rInS X.prog X.w X.A) := by
  intro pins s σ H x y v u Q I rx ry h
  obtain ⟨a, b, xs, r, u', rfl, rfl, d, hs, hu, q⟩ := h
  cases (show v = Value.ref b from rx)
  cases (show u = Value.ref a from ry)
  obtain ⟨hd, _, dd, _⟩ := d.dict I.hok
  refine wpAny_in_heap (knd := kind2 (mixKind X.prog X.w)) (k := skey (r, u')) hu (hs.is2 I.hok) hd dd ?_
  rw [ent_at]
  exact ⟨.bl _, H, I.tok _, rfl, q⟩
/-- d[y] = True, a sheet not yet among the keys -/
def sPutS (P : Program) (w : World) (A : Around) (td ty tv : TE) : TS := fun D σ H => tv σ H fun v H1 => td σ H1 fun x H2 => ty σ H2 fun y H3 => ∃ (a b : Addr) (xs : List ((List Nat × List Nat) × Addr)) (r u : List Nat),
  x = .ref a ∧ y = .ref b ∧ v = .bl true ∧ DS P w H3 a xs ∧ ShAt H3 b r u ∧ A.units + 2 < cLine ∧ (r, u) ∉ xs.map (·.1) ∧ xs.length < sizeLine ∧ ∀ H4, (∀ c, c ≠ a → H4 c = H3 c) → DS P w H4 a (xs ++ [((r, u), b)]) → D.nx σ H4
theorem ps_putS (ho : PE X o td) (hi : PE X i ty) (hv : PE X value tv) (hs : swapsWith value (some (.Subscript o i pos')) pos.line X.env = pure false) :
    PS X (.Assign [.Subscript o i pos'] value pos) (sPutS X.prog X.w X.A td ty tv) := by
  intro pins s σ H D I h
  refine wpAny_Assign_Subscript (thn (hv pins s σ H _ I h) fun r s1 ⟨v, H1, I1, rv, q1⟩ => thn (ho pins s1 σ H1 _ I1 q1) fun u s2 ⟨x, H2, I2, rx, q2⟩ => thn (hi pins s2 σ H2 _ I2 q2) fun iv s3 ⟨y, H3, I3, ry, a, b, xs, rr, uu, ex, ey, ev, d, hsh, hu, hn, hl, q3⟩ => ?_) hs
  subst ex ey ev
  obtain rfl : u = Value.ref a := rx
  obtain rfl : iv = Value.ref b := ry
  obtain rfl : r = Value.bool true := rv
  obtain ⟨hd, hz, dd, hnd⟩ := d.dict I3.hok
  have hz' : (ent xs).length ≤ sizeLine := by unfold ent; rw [List.length_map]; exact hz
  refine wpAny_setItem_heap (knd := kind2 (mixKind X.prog X.w)) (k := skey (rr, uu)) (hsz := hz') hu (hsh.is2 I3.hok) dd fun h' dd' hs' => ?_
  have hno : atKey (ent xs) (skey (rr, uu)) = none := by
    rw [← Option.not_isSome_iff_eq_none, ent_at]
    intro hc
    obtain ⟨z, hz1, hz2⟩ := List.any_eq_true.mp hc
    exact hn (List.mem_map.mpr ⟨z, hz1, of_decide_eq_true hz2⟩)
  rw [storedH_new hno] at dd'
  have eN : ent xs ++ [(skey (rr, uu), b, Value.bool true)] = ent (xs ++ [((rr, uu), b)]) := by unfold ent; rw [List.map_append]; rfl
  rw [eN] at dd'
  obtain ⟨q, es, ep, hq, h2, h3, h4, _, _⟩ := dd'
  have new : isDS X.prog X.w a (xs ++ [((rr, uu), b)]) h' := by
    refine ⟨by rw [List.length_append]; show xs.length + 1 ≤ _; omega, hd, q, es, ep, hq, h2, h3, h4, ?_⟩
    rw [List.map_append]
    refine List.nodup_append.mpr ⟨hnd, by simp, fun p hp p' hp' e => ?_⟩
    have hp' : p' = (rr, uu) := by simpa using hp'
    rw [e, hp'] at hp; exact hn hp
  have mu : Mut (H3 a) := by rcases d.1 with ⟨_, z⟩ | z <;> rw [z] <;> exact True.intro
  have I4 := d_write (ob := dS X.prog X.w a (xs ++ [((rr, uu), b)])) (t' := s3.toks + (kind2 (mixKind X.prog X.w)).draws (skey (rr, uu))) I3 mu hs' ⟨q, hq⟩ ⟨new, ⟨q, hq⟩, fun h1 h2 ⟨z1, z2, o1, es1, ep1, z3, z4⟩ k => ⟨z1, z2, o1, es1, ep1, k _ z3, z4⟩⟩
  refine ⟨σ, _, I4, q3 _ (fun c hc => upd_ne hc) ⟨.inr upd_same, fun x hx => ?_⟩⟩
  have hx : x ∈ xs ∨ x = ((rr, uu), b) := by simpa using hx
  have g : ShAt H3 x.2 x.1.1 x.1.2 := by
    rcases hx with hx | rfl
    · exact d.2 x hx
    · exact hsh
  obtain ⟨p, q', g1, g2, g3⟩ := g
  exact ⟨p, q', by rw [upd_ne (d.ne g1)]; exact g1, by rw [upd_ne (d.ne g2)]; exact g2, by rw [upd_ne (d.ne g3)]; exact g3⟩
end
end L2
namespace Sq
open L2
theorem clo {n : Nat} {row : List Nat} {T : Nat → Prop} (rr : Row n row) (cl : ∀ x, x < n → T x → T (nx row x)) : ∀ x, x < n → ¬ T x → ¬ T (nx row x) := fun x hx hn z => by
  classical
  have := shut_compl (M := (List.range n).filter fun x => decide (T x)) rr (List.nodup_range.filter _) (fun x hx => List.mem_range.mp (List.mem_filter.mp hx).1)
    (fun y hy => by
      obtain ⟨h1, h2⟩ := List.mem_filter.mp hy
      have h1 := List.mem_range.mp h1
      exact List.mem_filter.mpr ⟨List.mem_range.mpr (rr.nlt h1), decide_eq_true (cl y h1 (of_decide_eq_true h2))⟩) hx (fun w => hn (of_decide_eq_true (List.mem_filter.mp w).2))
  exact this (List.mem_filter.mpr ⟨List.mem_range.mpr (rr.nlt hx), decide_eq_true z⟩)
abbrev PS2 := List Nat × List Nat
def mvp (n c : Nat) (x : PS2) : PS2 := if c = 115 then (x.1, cmp n x.2 (back x.1)) else (back x.2, x.1)
theorem mvp_sheet {n : Nat} (c : Nat) {x : PS2} (s : Sheet n x.1 x.2) : Sheet n (mvp n c x).1 (mvp n c x).2 := by
  unfold mvp
  split
  · refine ⟨s.pos, s.most, s.row, cmp_row s.col s.row.back, fun T h0 sh => s.conn T h0 fun y hy ht => ?_⟩
    have h1 := (sh y hy ht).1
    refine ⟨h1, ?_⟩
    have h2 := (sh _ (s.row.nlt hy) h1).2
    rw [cmp_nx (s.row.nlt hy), nx_back s.row hy] at h2
    exact h2
  · refine ⟨s.pos, s.most, s.col.back, s.row, fun T h0 sh => s.conn T h0 fun y hy ht => ?_⟩
    refine ⟨(sh y hy ht).2, Classical.byContradiction fun hn => ?_⟩
    have := clo s.col.back (fun z hz hT => (sh z hz hT).1) _ (s.col.nlt hy) hn
    rw [nx_back s.col hy] at this
    exact this ht
theorem bf_hd {r u : List Nat} (x : Nat) : ∀ k, (bf r u x k)[0]? = some x
  | 0 => rfl
  | k + 1 => by
    show (bstep r u (bf r u x k) k)[0]? = some x
    unfold bstep
    split
    · exact put_get (put_get (bf_hd x k))
    · exact bf_hd x k
theorem nbr_hd {n x : Nat} {r u : List Nat} (s : Sheet n r u) (hx : x < n) : nx (nbr r u x) x = 0 := by
  have ro := order_row s hx
  have h0 : nx (order r u x) 0 = x := by
    show (order r u x).getD 0 0 = x
    rw [List.getD_eq_getElem?_getD, show (order r u x)[0]? = some x from bf_hd x 100]; rfl
  have := nx_back ro s.pos
  rw [h0] at this
  exact this
def IsFo (n : Nat) (x p : PS2) : Prop := ∃ k, k < n ∧ (∀ y, y < n → lexN false (fkey x.1 x.2 y) (fkey x.1 x.2 k) = false) ∧ p = (ren x.1 (nbr x.1 x.2 k), ren x.2 (nbr x.1 x.2 k))
theorem IsFo.uniq {n : Nat} {x p q : PS2} (s : Sheet n x.1 x.2) (h : IsFo n x p) (h' : IsFo n x q) : p = q := by
  obtain ⟨i, hi, li, rfl⟩ := h
  obtain ⟨j, hj, lj, rfl⟩ := h'
  have e := lexN_tot (by rw [fkey_len s hi, fkey_len s hj]) (lj i hi) (li j hj)
  have l1 := nbr_row s hi
  have l2 := nbr_row s hj
  have := List.append_inj e (by rw [ren_len, ren_len, l1.len, l2.len])
  rw [this.1, this.2]
open Classical in
noncomputable def fo (n : Nat) (x : PS2) : PS2 := if h : ∃ p, IsFo n x p then h.choose else x
theorem fo_of {n : Nat} {x p : PS2} (s : Sheet n x.1 x.2) (h : IsFo n x p) : fo n x = p := by
  have h' : ∃ p, IsFo n x p := ⟨p, h⟩
  unfold fo
  rw [dif_pos h']
  exact h'.choose_spec.uniq s h
/-- a sheet whose squares stand in the order in which they are met from the first -/
structure Can (n : Nat) (p : PS2) : Prop where
  sh : Sheet n p.1 p.2
  ord : order p.1 p.2 0 = List.range n
theorem Can.mk2 {n : Nat} {r u : List Nat} (a : Sheet n r u) (b : order r u 0 = List.range n) : Can n (r, u) := Can.mk a b
theorem map_back {n : Nat} {o : List Nat} (ro : Row n o) : o.map (nx (back o)) = List.range n := by
  apply List.ext_getElem
  · simp [ro.len]
  · intro k h1 h2
    have hk : k < n := by simpa using h2
    have hk' : k < o.length := by rw [ro.len]; exact hk
    rw [List.getElem_map, List.getElem_range]
    have ek : o[k] = nx o k := by simp [nx, hk']
    rw [ek]
    exact nx_back ro hk
theorem IsFo.can {n : Nat} {x p : PS2} (s : Sheet n x.1 x.2) (h : IsFo n x p) : Can n p := by
  obtain ⟨i, hi, _, rfl⟩ := h
  have rb := nbr_row s hi
  refine Can.mk2 (s.ren rb) ?_
  have o := order_row s hi
  have z : nx (nbr x.1 x.2 i) i = 0 := nbr_hd s hi
  have e := order_ren s.row s.col rb hi
  have e2 : (order x.1 x.2 i).map (nx (nbr x.1 x.2 i)) = List.range n := by unfold nbr; exact map_back o
  revert e e2 z
  generalize order x.1 x.2 i = oo
  generalize nbr x.1 x.2 i = f
  intro z e e2
  rw [z, e2] at e
  exact e
def lsts (n : Nat) : Nat → List (List Nat)
  | 0 => [[]]
  | m + 1 => (List.range n).flatMap fun a => (lsts n m).map fun l => a :: l
theorem lsts_mem {n : Nat} : ∀ {r : List Nat}, (∀ x ∈ r, x < n) → r ∈ lsts n r.length
  | [], _ => List.mem_singleton.mpr rfl
  | a :: r, h => List.mem_flatMap.mpr ⟨a, List.mem_range.mpr (h a List.mem_cons_self), List.mem_map.mpr ⟨r, lsts_mem fun x hx => h x (List.mem_cons_of_mem _ hx), rfl⟩⟩
def perms (n : Nat) : List (List Nat) := (lsts n n).filter fun r => (List.range n).all fun x => r.contains x
def cans (n : Nat) : List PS2 := (perms n).flatMap fun r => ((perms n).map fun u => (r, u)).filter fun p => decide (order p.1 p.2 0 = List.range n)
theorem perms_mem {n : Nat} {r : List Nat} (h : Row n r) : r ∈ perms n := by
  refine List.mem_filter.mpr ⟨?_, List.all_eq_true.mpr fun x hx => ?_⟩
  · have := lsts_mem (n := n) (r := r) h.lt
    rwa [h.len] at this
  · have hx := List.mem_range.mp hx
    have : nx r (nx (back r) x) = x := nx_back' h hx
    have hb := h.back.nlt hx
    have hl : nx (back r) x < r.length := by rw [h.len]; exact hb
    rw [List.contains_iff_mem]
    rw [← this]
    revert hl
    generalize nx (back r) x = j
    intro hl
    have : nx r j = r[j] := by simp [nx, hl]
    rw [this]
    exact List.getElem_mem hl
theorem cans_mem {n : Nat} {p : PS2} (h : Can n p) : p ∈ cans n :=
  List.mem_flatMap.mpr ⟨p.1, perms_mem h.sh.row, List.mem_filter.mpr ⟨List.mem_map.mpr ⟨p.2, perms_mem h.sh.col, rfl⟩, decide_eq_true h.ord⟩⟩
def few (n : Nat) : Bool := Nat.ble (cans n).length 71
theorem few_all : (List.range 5).all few = true := by decide +kernel
theorem cans_few (n : Nat) (h : n ≤ 4) : (cans n).length ≤ 71 := by
  have := List.all_eq_true.mp few_all n (List.mem_range.mpr (by omega))
  exact Nat.le_of_ble_eq_true this
abbrev Tl := List (PS2 × List Nat)
def has (L : Tl) (p : PS2) : Bool := L.any fun e => decide (e.1 = p)
def putL (L : Tl) (p : PS2) (z : List Nat) : Tl := if has L p then L else L ++ [(p, z)]
structure Gd (n : Nat) (L : Tl) : Prop where
  nd : (L.map (·.1)).Nodup
  can : ∀ e ∈ L, Can n e.1
theorem Gd.few {n : Nat} {L : Tl} (g : Gd n L) (hn : n ≤ 4) : L.length ≤ 71 := by
  have h := sub_len (L.map (·.1)) (cans n) g.nd fun p hp => by
    obtain ⟨e, he, rfl⟩ := List.mem_map.mp hp
    exact cans_mem (g.can e he)
  rw [List.length_map] at h
  exact Nat.le_trans h (cans_few n hn)
theorem has_not {L : Tl} {p : PS2} (h : has L p = false) : p ∉ L.map (·.1) := fun hc => by
  obtain ⟨e, he, rfl⟩ := List.mem_map.mp hc
  have : has L e.1 = true := List.any_eq_true.mpr ⟨e, he, decide_eq_true rfl⟩
  rw [h] at this; cases this
theorem Gd.snoc {n : Nat} {L : Tl} {p : PS2} {z : List Nat} (g : Gd n L) (c : Can n p) (h : has L p = false) : Gd n (L ++ [(p, z)]) := by
  refine Gd.mk ?_ fun e he => ?_
  · rw [List.map_append]
    refine List.nodup_append.mpr ⟨g.nd, by simp, fun a ha b hb e => ?_⟩
    have hb : b = p := by simpa using hb
    rw [e, hb] at ha; exact has_not h ha
  · have he : e ∈ L ∨ e = (p, z) := by simpa using he
    rcases he with he | rfl
    · exact g.can e he
    · exact c
theorem Gd.put {n : Nat} {L : Tl} {p : PS2} {z : List Nat} (g : Gd n L) (c : Can n p) : Gd n (putL L p z) := by
  unfold putL
  split
  · exact g
  · rename_i h; exact g.snoc c (by simpa using h)
theorem Gd.one {n : Nat} {p : PS2} (c : Can n p) : Gd n (putL [] p []) := Gd.put (Gd.mk List.nodup_nil fun e he => nomatch he) c
theorem putL_get {L : Tl} {p : PS2} {z : List Nat} {i : Nat} {e : PS2 × List Nat} (h : L[i]? = some e) : (putL L p z)[i]? = some e := by
  unfold putL; split
  · exact h
  · rw [List.getElem?_append_left (List.getElem?_eq_some_iff.mp h).1]; exact h
theorem putL_words {L : Tl} {p : PS2} {z : List Nat} {m : Nat} (h : ∀ e ∈ L, e.2.length ≤ m ∧ ∀ c ∈ e.2, c = 115 ∨ c = 116) (hz : z.length ≤ m ∧ ∀ c ∈ z, c = 115 ∨ c = 116) : ∀ e ∈ putL L p z, e.2.length ≤ m ∧ ∀ c ∈ e.2, c = 115 ∨ c = 116 := by
  unfold putL; split
  · exact h
  · intro e he
    have he : e ∈ L ∨ e = (p, z) := by simpa using he
    rcases he with he | rfl
    · exact h e he
    · exact hz
noncomputable def cl (n : Nat) (x : PS2) : Nat → Tl
  | 0 => putL [] (fo n x) []
  | k + 1 => match (cl n x k)[k]? with
    | some e => putL (putL (cl n x k) (fo n (mvp n 115 e.1)) (e.2 ++ [115])) (fo n (mvp n 116 e.1)) (e.2 ++ [116])
    | none => cl n x k
theorem cl_next {n : Nat} {x : PS2} {k : Nat} {e : PS2 × List Nat} (h : (cl n x k)[k]? = some e) :
    cl n x (k + 1) = putL (putL (cl n x k) (fo n (mvp n 115 e.1)) (e.2 ++ [115])) (fo n (mvp n 116 e.1)) (e.2 ++ [116]) := by
  show (match (cl n x k)[k]? with | some e => _ | none => _) = _
  rw [h]
theorem cl_stays {n : Nat} {x : PS2} {k : Nat} (h : (cl n x k).length ≤ k) : ∀ j, cl n x (k + j) = cl n x k
  | 0 => rfl
  | j + 1 => by
    have ih := cl_stays h j
    show (match (cl n x (k + j))[k + j]? with | some e => _ | none => cl n x (k + j)) = _
    have : (cl n x (k + j))[k + j]? = none := by rw [List.getElem?_eq_none_iff, ih]; omega
    rw [this]; exact ih
theorem cl_end {n : Nat} {x : PS2} {k j : Nat} (h : (cl n x k).length ≤ k) (h' : (cl n x j).length ≤ j) : cl n x k = cl n x j := by
  rcases Nat.le_total k j with q | q
  · have := cl_stays h (j - k); rw [show k + (j - k) = j by omega] at this; exact this.symm
  · have := cl_stays h' (k - j); rw [show j + (k - j) = k by omega] at this; exact this
end Sq
namespace Sq
open L2
theorem row_by {n : Nat} {a b f : List Nat} (ha : Row n a) (hb : Row n b) (hf : Row n f) (h : ∀ y, y < n → nx a (nx f y) = nx b (nx f y)) : a = b := by
  apply List.ext_getElem
  · rw [ha.len, hb.len]
  · intro k h1 h2
    have hk : k < n := by rw [← ha.len]; exact h1
    have := h (nx (back f) k) (hf.back.nlt hk)
    rw [nx_back' hf hk] at this
    have e1 : a[k] = nx a k := by simp [nx, h1]
    have e2 : b[k] = nx b k := by simp [nx, h2]
    rw [e1, e2, this]
def ren2 (x : PS2) (f : List Nat) : PS2 := (ren x.1 f, ren x.2 f)
theorem back_ren {n : Nat} {r f : List Nat} (hr : Row n r) (hf : Row n f) {y : Nat} (hy : y < n) : nx (back (ren r f)) (nx f y) = nx f (nx (back r) y) := by
  have hb := hr.back.nlt hy
  have e : nx (ren r f) (nx f (nx (back r) y)) = nx f y := by rw [ren_at hf hb, nx_back' hr hy]
  rw [← e, nx_back (ren_row hr hf) (hf.nlt hb)]
theorem mvp_ren {n c : Nat} {x : PS2} {f : List Nat} (h1 : Row n x.1) (h2 : Row n x.2) (hf : Row n f) : mvp n c (ren2 x f) = ren2 (mvp n c x) f := by
  unfold mvp
  split
  · show (ren x.1 f, cmp n (ren x.2 f) (back (ren x.1 f))) = (ren x.1 f, ren (cmp n x.2 (back x.1)) f)
    congr 1
    refine row_by (cmp_row (ren_row h2 hf) (ren_row h1 hf).back) (ren_row (cmp_row h2 h1.back) hf) hf fun y hy => ?_
    rw [cmp_nx (hf.nlt hy), back_ren h1 hf hy, ren_at hf (h1.back.nlt hy), ren_at hf hy, cmp_nx hy]
  · show (back (ren x.2 f), ren x.1 f) = (ren (back x.2) f, ren x.1 f)
    congr 1
    refine row_by (ren_row h2 hf).back (ren_row h2.back hf) hf fun y hy => ?_
    rw [back_ren h2 hf hy, ren_at hf hy]
theorem IsFo.ren {n : Nat} {x p : PS2} {f : List Nat} (s : Sheet n x.1 x.2) (hf : Row n f) (h : IsFo n x p) : IsFo n (ren2 x f) p := by
  obtain ⟨k, hk, hm, rfl⟩ := h
  have e := fun y hy => fkey_ren (x := y) s hf hy
  refine ⟨nx f k, hf.nlt hk, fun y hy => ?_, ?_⟩
  · show lexN false (fkey (Sq.ren x.1 f) (Sq.ren x.2 f) y) (fkey (Sq.ren x.1 f) (Sq.ren x.2 f) (nx f k)) = false
    have hy' := hf.back.nlt hy
    have := e (nx (back f) y) hy'
    rw [nx_back' hf hy] at this
    rw [this, e k hk]
    exact hm _ hy'
  · have l1 := nbr_row s hk
    have l2 := nbr_row (s.ren hf) (hf.nlt hk)
    have ek := e k hk
    unfold fkey at ek
    have := List.append_inj ek (by rw [ren_len, ren_len, l1.len, l2.len])
    show _ = (Sq.ren (Sq.ren x.1 f) (nbr (Sq.ren x.1 f) (Sq.ren x.2 f) (nx f k)), Sq.ren (Sq.ren x.2 f) (nbr (Sq.ren x.1 f) (Sq.ren x.2 f) (nx f k)))
    rw [this.1, this.2]
/-- the form of the moved form is the form of the moved sheet -/
theorem IsFo.move {n c : Nat} {x p q : PS2} (s : Sheet n x.1 x.2) (h : IsFo n x p) (h' : IsFo n (mvp n c x) q) : IsFo n (mvp n c p) q := by
  obtain ⟨k, hk, _, rfl⟩ := h
  have rb := nbr_row s hk
  have e : mvp n c (ren2 x (nbr x.1 x.2 k)) = ren2 (mvp n c x) (nbr x.1 x.2 k) := mvp_ren s.row s.col rb
  have g := h'.ren (mvp_sheet c s) rb
  rw [← e] at g
  exact g
theorem least_ex {n : Nat} (f : Nat → List Nat) : ∀ m, 1 ≤ m → ∃ k, k < m ∧ ∀ y, y < m → lexN false (f y) (f k) = false
  | 0, h => by omega
  | 1, _ => ⟨0, by omega, fun y hy => by rw [show y = 0 by omega]; exact lexN_self false _⟩
  | m + 2, _ => by
    obtain ⟨k, hk, hm⟩ := least_ex f (n := n) (m + 1) (by omega)
    cases c : lexN false (f (m + 1)) (f k) with
    | false =>
      refine ⟨k, by omega, fun y hy => ?_⟩
      by_cases e : y = m + 1
      · rw [e]; exact c
      · exact hm y (by omega)
    | true =>
      refine ⟨m + 1, by omega, fun y hy => ?_⟩
      by_cases e : y = m + 1
      · rw [e]; exact lexN_self false _
      · cases d : lexN false (f y) (f (m + 1)) with
        | false => rfl
        | true =>
          have := lexN_tr d c
          rw [hm y (by omega)] at this; exact this.symm
theorem fo_is {n : Nat} {x : PS2} (s : Sheet n x.1 x.2) : IsFo n x (fo n x) := by
  obtain ⟨k, hk, hm⟩ := least_ex (n := n) (fkey x.1 x.2) n s.pos
  have h : IsFo n x (ren x.1 (nbr x.1 x.2 k), ren x.2 (nbr x.1 x.2 k)) := ⟨k, hk, hm, rfl⟩
  rw [fo_of s h]; exact h
theorem fo_move {n c : Nat} {x : PS2} (s : Sheet n x.1 x.2) : fo n (mvp n c (fo n x)) = fo n (mvp n c x) := by
  have h := fo_is s
  exact fo_of (mvp_sheet c (h.can s).sh) (h.move s (fo_is (mvp_sheet c s)))
theorem has_put {L : Tl} {p : PS2} {z : List Nat} : has (putL L p z) p = true := by
  unfold putL
  split
  · assumption
  · unfold has; simp
theorem has_more {L : Tl} {p q : PS2} {z : List Nat} (h : has L p = true) : has (putL L q z) p = true := by
  unfold putL
  split
  · exact h
  · unfold has at *; rw [List.any_append, h]; rfl
theorem cl_keeps {n : Nat} {x : PS2} {k i : Nat} {e : PS2 × List Nat} (h : (cl n x k)[i]? = some e) : ∀ j, (cl n x (k + j))[i]? = some e
  | 0 => h
  | j + 1 => by
    have ih := cl_keeps h j
    cases c : (cl n x (k + j))[k + j]? with
    | none =>
      have e1 : cl n x (k + j + 1) = cl n x (k + j) := by
        show (match (cl n x (k + j))[k + j]? with | some e => _ | none => cl n x (k + j)) = _
        rw [c]
      rw [show k + (j + 1) = k + j + 1 from rfl, e1]; exact ih
    | some e' =>
      rw [show k + (j + 1) = k + j + 1 from rfl, cl_next c]
      exact putL_get (putL_get ih)
theorem cl_has {n : Nat} {x p : PS2} {k : Nat} (h : has (cl n x k) p = true) : ∀ j, has (cl n x (k + j)) p = true := fun j => by
  unfold has at *
  obtain ⟨e, he, hp⟩ := List.any_eq_true.mp h
  obtain ⟨i, hi⟩ := List.mem_iff_getElem?.mp he
  exact List.any_eq_true.mpr ⟨e, List.mem_of_getElem? (cl_keeps hi j), hp⟩
theorem cl_closed {n : Nat} {x : PS2} {k c : Nat} {e : PS2 × List Nat} (h : (cl n x k).length ≤ k) (he : e ∈ cl n x k) (hc : c = 115 ∨ c = 116) : has (cl n x k) (fo n (mvp n c e.1)) = true := by
  obtain ⟨i, hi⟩ := List.mem_iff_getElem?.mp he
  have hl := (List.getElem?_eq_some_iff.mp hi).1
  cases d : (cl n x i)[i]? with
  | none =>
    have hle : (cl n x i).length ≤ i := List.getElem?_eq_none_iff.mp d
    have := cl_end h hle
    rw [this] at hl; omega
  | some e' =>
    have e1 := cl_keeps d (k - i)
    rw [show i + (k - i) = k by omega, hi] at e1
    cases e1
    have nx1 := cl_next d
    have g : has (cl n x (i + 1)) (fo n (mvp n c e.1)) = true := by
      rw [nx1]
      rcases hc with rfl | rfl
      · exact has_more has_put
      · exact has_put
    have := cl_has g (k - (i + 1))
    rwa [show i + 1 + (k - (i + 1)) = k by omega] at this
end Sq
namespace Sq
open L2
/-- a form -/
structure Fm (n : Nat) (p : PS2) : Prop where
  sh : Sheet n p.1 p.2
  fo : Sq.fo n p = p
theorem fo_ren {n : Nat} {x : PS2} (s : Sheet n x.1 x.2) : ∃ f, Row n f ∧ fo n x = ren2 x f := by
  obtain ⟨k, hk, _, e⟩ := fo_is s
  exact ⟨_, nbr_row s hk, e⟩
theorem fo_same {n : Nat} {x : PS2} {f : List Nat} (s : Sheet n x.1 x.2) (hf : Row n f) : fo n (ren2 x f) = fo n x := fo_of (x := ren2 x f) (s.ren hf) ((fo_is s).ren s hf)
theorem fo_fm {n : Nat} {x : PS2} (s : Sheet n x.1 x.2) : Fm n (fo n x) := by
  have c := (fo_is s).can s
  refine Fm.mk c.sh ?_
  obtain ⟨f, hf, e⟩ := fo_ren s
  have := fo_same s hf
  rw [← e] at this
  exact this
/-- what holds of the first and is kept by both letters holds of all that is reached -/
theorem cl_all {n : Nat} {x : PS2} (s : Sheet n x.1 x.2) (T : PS2 → Prop) (h0 : T (fo n x)) (hs : ∀ p c, Fm n p → T p → (c = 115 ∨ c = 116) → T (fo n (mvp n c p))) : ∀ k, ∀ e ∈ cl n x k, Fm n e.1 ∧ T e.1
  | 0 => fun e he => by
    have he : e = (fo n x, []) := by simpa [cl, putL, has] using he
    rw [he]; exact ⟨fo_fm s, h0⟩
  | k + 1 => by
    have ih := cl_all s T h0 hs k
    cases c : (cl n x k)[k]? with
    | none =>
      have e1 : cl n x (k + 1) = cl n x k := by
        show (match (cl n x k)[k]? with | some e => _ | none => cl n x k) = _
        rw [c]
      rw [e1]; exact ih
    | some e' =>
      obtain ⟨f', t'⟩ := ih e' (List.mem_of_getElem? c)
      have put : ∀ (L : Tl) (d : Nat) (z : List Nat), (d = 115 ∨ d = 116) → (∀ e ∈ L, Fm n e.1 ∧ T e.1) → ∀ e ∈ putL L (fo n (mvp n d e'.1)) z, Fm n e.1 ∧ T e.1 := fun L d z hd hL e he => by
        unfold putL at he
        split at he
        · exact hL e he
        · have he : e ∈ L ∨ e = (fo n (mvp n d e'.1), z) := by simpa using he
          rcases he with he | rfl
          · exact hL e he
          · exact ⟨fo_fm (mvp_sheet d f'.sh), hs _ _ f' t' hd⟩
      rw [cl_next c]
      exact put _ _ _ (.inr rfl) (put _ _ _ (.inl rfl) ih)
theorem has_iff {L : Tl} {p : PS2} : has L p = true ↔ p ∈ L.map (·.1) := by
  unfold has
  rw [List.any_eq_true, List.mem_map]
  exact ⟨fun ⟨e, h1, h2⟩ => ⟨e, h1, of_decide_eq_true h2⟩, fun ⟨e, h1, h2⟩ => ⟨e, h1, decide_eq_true h2⟩⟩
theorem cl_first {n : Nat} {x : PS2} (k : Nat) : has (cl n x k) (fo n x) = true := by
  have := cl_has (n := n) (x := x) (k := 0) (p := fo n x) has_put k
  rwa [Nat.zero_add] at this
/-- moved by a word -/
def mvw (n : Nat) (z : List Nat) (x : PS2) : PS2 := z.foldl (fun p c => mvp n c p) x
theorem mvw_snoc (n : Nat) (z : List Nat) (c : Nat) (x : PS2) : mvw n (z ++ [c]) x = mvp n c (mvw n z x) := by unfold mvw; rw [List.foldl_append]; rfl
theorem mvw_sheet {n : Nat} : ∀ (z : List Nat) {x : PS2}, Sheet n x.1 x.2 → Sheet n (mvw n z x).1 (mvw n z x).2
  | [], _, s => s
  | c :: z, x, s => mvw_sheet z (x := mvp n c x) (mvp_sheet c s)
/-- the words lead there -/
theorem cl_word {n : Nat} {x : PS2} (s : Sheet n x.1 x.2) : ∀ k, ∀ e ∈ cl n x k, fo n (mvw n e.2 x) = e.1
  | 0 => fun e he => by
    have he : e = (fo n x, []) := by simpa [cl, putL, has] using he
    rw [he]; rfl
  | k + 1 => by
    have ih := cl_word s k
    cases c : (cl n x k)[k]? with
    | none =>
      have e1 : cl n x (k + 1) = cl n x k := by
        show (match (cl n x k)[k]? with | some e => _ | none => cl n x k) = _
        rw [c]
      rw [e1]; exact ih
    | some e' =>
      have t' := ih e' (List.mem_of_getElem? c)
      have put : ∀ (L : Tl) (d : Nat), (∀ e ∈ L, fo n (mvw n e.2 x) = e.1) → ∀ e ∈ putL L (fo n (mvp n d e'.1)) (e'.2 ++ [d]), fo n (mvw n e.2 x) = e.1 := fun L d hL e he => by
        unfold putL at he
        split at he
        · exact hL e he
        · have he : e ∈ L ∨ e = (fo n (mvp n d e'.1), e'.2 ++ [d]) := by simpa using he
          rcases he with he | rfl
          · exact hL e he
          · have h1 := fo_move (c := d) (mvw_sheet e'.2 s)
            rw [t'] at h1
            show fo n (mvw n (e'.2 ++ [d]) x) = fo n (mvp n d e'.1)
            rw [mvw_snoc]; exact h1.symm
      rw [cl_next c]
      exact put _ _ (put _ _ ih)
theorem cl_head (n : Nat) (x : PS2) (k : Nat) : (cl n x k)[0]? = some (fo n x, []) := by
  have h : (cl n x 0)[0]? = some (fo n x, []) := by
    show (putL [] (fo n x) [])[0]? = _
    generalize fo n x = F
    rfl
  have := cl_keeps h k
  rwa [Nat.zero_add] at this
end Sq
namespace Sq
open L2
/-- what a word leads to is reached -/
theorem word_in {n k : Nat} {x : PS2} (s : Sheet n x.1 x.2) (h : (cl n x k).length ≤ k) : ∀ (z : List Nat), (∀ c ∈ z, c = 115 ∨ c = 116) → has (cl n x k) (fo n (mvw n z x)) = true := by
  have : ∀ (m : Nat) (z : List Nat), z.length = m → (∀ c ∈ z, c = 115 ∨ c = 116) → has (cl n x k) (fo n (mvw n z x)) = true := by
    intro m
    induction m with
    | zero =>
      intro z hz _
      have : z = [] := List.length_eq_zero_iff.mp hz
      subst this
      exact cl_first k
    | succ m ih =>
      intro z hz hc
      have hne : z ≠ [] := fun e => by rw [e] at hz; cases hz
      obtain ⟨z', c, rfl⟩ : ∃ z' c, z = z' ++ [c] := ⟨_, _, (List.dropLast_concat_getLast hne).symm⟩
      have g := ih z' (by rw [List.length_append] at hz; simpa using hz) fun d hd => hc d (List.mem_append_left _ hd)
      obtain ⟨e, he, e1⟩ := List.mem_map.mp (has_iff.mp g)
      have q := cl_closed h he (hc c (List.mem_append_right _ List.mem_cons_self))
      rw [e1, fo_move (mvw_sheet z' s)] at q
      rw [mvw_snoc]; exact q
  exact fun z => this _ z rfl
end Sq
namespace Sq
open L2
theorem bf_nd {r u : List Nat} {x : Nat} : ∀ k, (bf r u x k).Nodup
  | 0 => List.nodup_cons.mpr ⟨by simp, List.nodup_nil⟩
  | k + 1 => by
    show (bstep r u (bf r u x k) k).Nodup
    unfold bstep
    split
    · exact put_nd (put_nd (bf_nd k))
    · exact bf_nd k
theorem order_by {n x : Nat} {r u : List Nat} (s : Sheet n r u) (hx : x < n) : order r u x = bf r u x n := by
  refine bf_order ?_ (by have := s.most; omega)
  have := sub_len _ (List.range n) (bf_nd (r := r) (u := u) (x := x) n) fun y hy => List.mem_range.mpr ((bf_ren s.row s.col (range_row n) hx n).1 y hy)
  simpa using this
/-- the form, reckoned -/
def key8 (n : Nat) (x : PS2) (k : Nat) : List Nat := ren x.1 (back (bf x.1 x.2 k n)) ++ ren x.2 (back (bf x.1 x.2 k n))
theorem range_nx {n k : Nat} (h : k < n) : nx (List.range n) k = k := by
  show (List.range n).getD k 0 = _
  rw [List.getD_eq_getElem?_getD, List.getElem?_range h]; rfl
end Sq
namespace K1
open PySem L2 Sq
def RS (P : Program) (w : World) (H : Hp) (t d : Addr) (L : Tl) : Prop := ∃ (ps : List Addr) (xs : List (PS2 × Addr)), H t = some (.lst (ps.map V.ref)) ∧ ps.length = L.length ∧
  (∀ (i : Nat) (p : Addr) (e : PS2 × List Nat), ps[i]? = some p → L[i]? = some e → ∃ b, H p = some (.tup [.ref b, .str (txt e.2)]) ∧ ShAt H b e.1.1 e.1.2) ∧ DS P w H d xs ∧ xs.map (·.1) = L.map (·.1)
/-- all stands but the two -/
def Out (t d : Addr) (H H' : Hp) : Prop := ∀ c o, H c = some o → c ≠ t → c ≠ d → H' c = some o
theorem Out.refl (t d : Addr) (H : Hp) : Out t d H H := fun _ _ h _ _ => h
theorem RS.same {P : Program} {w : World} {H H' : Hp} {t d : Addr} {L : Tl} (s : Same H H') (h : RS P w H t d L) : RS P w H' t d L := by
  obtain ⟨ps, xs, h1, h2, h3, h4, h5⟩ := h
  exact ⟨ps, xs, s _ _ h1, h2, fun i p e a b => let ⟨c, x, y⟩ := h3 i p e a b; ⟨c, s _ _ x, y.same s⟩, h4.same s, h5⟩
theorem has_keys {L : Tl} {xs : List (PS2 × Addr)} (h : xs.map (·.1) = L.map (·.1)) (p : PS2) : (xs.any fun z => decide (z.1 = p)) = has L p := by
  unfold has
  have e1 : (xs.any fun z => decide (z.1 = p)) = (xs.map (·.1)).any fun q => decide (q = p) := by rw [List.any_map]; rfl
  have e2 : (L.any fun z => decide (z.1 = p)) = (L.map (·.1)).any fun q => decide (q = p) := by rw [List.any_map]; rfl
  rw [e1, e2, h]
theorem sh_out {H H' : Hp} {b : Addr} {r u : List Nat} (k : ∀ c ys, H c = some (.tup ys) → H' c = some (.tup ys)) (h : ShAt H b r u) : ShAt H' b r u := let ⟨p, q, h1, h2, h3⟩ := h; ⟨p, q, k _ _ h1, k _ _ h2, k _ _ h3⟩
theorem msg100 {m : Nat} (h : m < 100) : (Str.empty ++ Str.ofString "there are more than ").length ≤ sizeLine ∧ ((Str.empty ++ Str.ofString "there are more than ") ++ Str.ofString (toString (m : Int))).length ≤ sizeLine ∧ (((Str.empty ++ Str.ofString "there are more than ") ++ Str.ofString (toString (m : Int))) ++ Str.ofString " sheets").length ≤ sizeLine ∧ ((m : Int)).natAbs.log2 < 1920 := by
  have : ∀ k : Fin 100, (Str.empty ++ Str.ofString "there are more than ").length ≤ 1000 ∧ ((Str.empty ++ Str.ofString "there are more than ") ++ Str.ofString (toString (k.val : Int))).length ≤ 1000 ∧ (((Str.empty ++ Str.ofString "there are more than ") ++ Str.ofString (toString (k.val : Int))) ++ Str.ofString " sheets").length ≤ 1000 ∧ ((k.val : Int)).natAbs.log2 < 1920 := by decide +kernel
  have four : 1000 ≤ sizeLine := by decide
  obtain ⟨a, b, c, d⟩ := this ⟨m, h⟩
  exact ⟨Nat.le_trans a four, Nat.le_trans b four, Nat.le_trans c four, d⟩
def spPu4 (P : Program) (w : World) (CT : Addr) : Sp := fun vs H Q E => ∃ (t d p b : Addr) (L : Tl) (r u z : List Nat) (m : Nat), vs = [.ref t, .ref d, .ref p, .int (m : Int)] ∧ RS P w H t d L ∧ H p = some (.tup [.ref b, .str (txt z)]) ∧ ShAt H b r u ∧ L.length ≤ 900 ∧
  (has L (r, u) = false → m ≤ L.length → m < 100 ∧ E (.ref CT) none H) ∧ ∀ H', Out t d H H' → RS P w H' t d (putL L (r, u) z) → (has L (r, u) = false → L.length < m) → Q .non H'
section
variable {P : Program} {w : World} {K : PySem.W.Frag} {mg : Str → Option Value} {base : Heap}
abbrev n_pu4 : List Str := ["told", "listed", "pair", "most"]
theorem sc_pu4 : FnScope n_pu4 ["told", "listed", "pair", "most"] (defScope sPut) := ⟨rfl, rfl, rfl, by decide +kernel, rfl, by decide +kernel, by decide +kernel⟩
set_option maxHeartbeats 600000 in
theorem ok_pu4 {f : Addr} {fd : FuncData} {CT : Addr} (T : Bi mg) (hC : ExCls K CT) (hCm : mg "TooMany" = some (.ref CT)) (F : Fn K mg "put" sPut ["told", "listed", "pair", "most"] f fd) : FnOk P w K mg base (CX1 P w) 1 f fd ["told", "listed", "pair", "most"] (spPu4 P w CT) := by
  refine F.F.ok1 sc_pu4 (fun vs H Q E h => ?_) (fun cdv A outer s H vs Q E hr h => ?_)
  · obtain ⟨t, d, p, b, L, r, u, z, m, rfl, _⟩ := h; rfl
  · obtain ⟨t, d, p, b, L, r, u, z, m, rfl, hRS, hp, hb, h9, hm, k⟩ := h
    refine ⟨_, (pss_cons (ps_if (pt_cmpR op_inS (pe_ix ix_tup (pv 2) pe_int (fun _ _ => rfl)) (pv 1) rfl) (pss_one ps_retN) pss_nil)
      (pss_cons (ps_if (pt_cmpR op_ge (pe_callB call_len_seq rfl T.len PySem.boot_len (pa_cons (pv 0) pa_nil)) (pv 3) (nomark _)) (pss_one (ps_raise rfl hC rfl hCm throw1 (pa_cons (pe_fstr (.cons pe_str (.cons (pe_fmtI (pv 3)) (.cons pe_str .nil)))) pa_nil))) pss_nil)
      (pss_cons (ps_putS (pv 1) (pe_ix ix_tup (pv 2) pe_int (fun _ _ => rfl)) pe_bl rfl)
      (pss_one (ps_expr (pe_bm PySem.F.plainAttrs_list PySem.F.slot_list_append PySem.F.type_list_append mt_append (pv 0) (pa_cons (pv 2) pa_nil))))))), ?_⟩
    have hu : ∀ {A : Around} {k : Nat}, Room k A → A.units + 2 < cLine := fun {A k} hr => by have := hr.un; omega
    obtain ⟨ps, xs, h1, h2, h3, h4, h5⟩ := id hRS
    have hxl : xs.length = L.length := by rw [← List.length_map (f := (·.1)) (as := xs), h5, List.length_map]
    refine ⟨_, rfl, p, _, 0, _, rfl, rfl, SqT.of hp, atI_nat (j := 0) rfl, _, rfl, d, b, xs, r, u, rfl, rfl, h4, hb, hu hr, _, rfl, ?_⟩
    rw [has_keys h5]
    cases hh : has L (r, u) with
    | true =>
      refine iteT ?_
      refine k H (Out.refl t d H) ?_ fun z => by rw [hh] at z; cases z
      unfold putL; rw [hh]; exact hRS
    | false =>
      refine iteF ?_
      refine ⟨_, rfl, t, _, rfl, .inl (SqL.of h1), _, rfl, _, _, rfl, rfl, _, rfl, ?_⟩
      rw [List.length_map, h2]
      by_cases hml : m ≤ L.length
      · rw [decide_eq_true (by omega)]
        refine iteT ?_
        obtain ⟨m20, hE⟩ := hm hh hml
        obtain ⟨q1, q2, q3, q4⟩ := msg100 m20
        refine ⟨_, rfl, q1, ?_⟩
        refine ⟨_, rfl, (m : Int), rfl, q4, _, rfl, q2, ?_⟩
        refine ⟨_, rfl, q3, ?_⟩
        exact ⟨by show 1 ≤ sizeLine; decide, hE⟩
      have hlm : L.length < m := by omega
      rw [decide_eq_false (by omega)]
      refine iteF ?_
      refine ⟨_, rfl, _, rfl, p, _, 0, _, rfl, rfl, SqT.of hp, atI_nat (j := 0) rfl, d, b, xs, r, u, rfl, rfl, rfl, h4, hb, hu hr, ?_, ?_, fun H4 s4 h4' => ?_⟩
      · rw [h5]; exact has_not hh
      · rw [hxl]; exact small1000 (by omega)
      have td : t ≠ d := by
        rintro rfl
        rcases h4.1 with ⟨_, z⟩ | z <;> rw [h1] at z <;> cases z
      have t4 : H4 t = some (.lst (ps.map V.ref)) := by rw [s4 t td]; exact h1
      refine ⟨_, rfl, .inl ⟨rfl, _, SqL.of t4⟩, _, rfl, t, _, _, rfl, rfl, t4, ?_, ?_⟩
      · rw [List.length_map, h2]; exact small1000 (by omega)
      have kt : ∀ c ys, H c = some (.tup ys) → (upd H4 t (.lst (ps.map V.ref ++ [.ref p]))) c = some (.tup ys) := fun c ys hc => by
        rw [upd_ne (fun e => by rw [e, h1] at hc; cases hc), s4 c (h4.ne hc)]; exact hc
      refine k _ (fun c o hc n1 n2 => by rw [upd_ne n1, s4 c n2]; exact hc) ?_ fun _ => hlm
      unfold putL; rw [hh]
      refine ⟨ps ++ [p], xs ++ [((r, u), b)], ?_, by simp [h2], fun i q e hq he => ?_, h4'.away (Ne.symm td |>.symm) (fun ys z => by rw [t4] at z; cases z), by simp [h5]⟩
      · rw [upd_same, List.map_append]; rfl
      · by_cases hi : i < ps.length
        · rw [List.getElem?_append_left hi] at hq
          have hi' : i < L.length := by omega
          have he : (L ++ [((r, u), z)])[i]? = some e := he
          rw [List.getElem?_append_left hi'] at he
          obtain ⟨c, g1, g2⟩ := h3 i q e hq he
          exact ⟨c, kt _ _ g1, sh_out kt g2⟩
        · have hl := (List.getElem?_eq_some_iff.mp hq).1
          rw [List.length_append] at hl
          have hi2 : i = ps.length := by simp at hl; omega
          subst hi2
          have he : (L ++ [((r, u), z)])[ps.length]? = some e := he
          rw [h2] at he
          simp at hq he
          subst hq he
          exact ⟨b, kt _ _ hp, sh_out kt hb⟩
end
end K1
namespace Sq
open L2
theorem back_range (n : Nat) : back (List.range n) = List.range n := by
  refine ext_row (n := n) (range_row n).back.len (range_row n).len fun i hi => ?_
  have := nx_back (range_row n) hi
  rw [range_nx hi] at this
  rw [this, range_nx hi]
def pre5 (r u : List Nat) : Bool := Nat.ble (nx r 0) 1 && (Nat.beq (nx r 0) 1 || Nat.beq (nx u 0) 1)
def tst5 (p : PS2) : Bool := pre5 p.1 p.2 && (decide (bf p.1 p.2 0 5 = [0, 1, 2, 3, 4]) && ((List.range 5).all fun k => !lexN false (key8 5 p k) (key8 5 p 0)))
def fsn (T : PS2 → Bool) (n : Nat) : List PS2 := (perms n).flatMap fun r => ((perms n).map fun u => (r, u)).filter T
theorem fsn_mem {T : PS2 → Bool} {n : Nat} {p : PS2} (s : Sheet n p.1 p.2) (h : T p = true) : p ∈ fsn T n := List.mem_flatMap.mpr ⟨p.1, perms_mem s.row, List.mem_filter.mpr ⟨List.mem_map.mpr ⟨p.2, perms_mem s.col, rfl⟩, h⟩⟩
theorem few5 : Nat.ble (fsn tst5 5).length 190 = true := by decide +kernel
end Sq
namespace Sq
open L2
theorem bf_keep {r u : List Nat} {x i y : Nat} {k : Nat} (h : (bf r u x k)[i]? = some y) : ∀ j, (bf r u x (k + j))[i]? = some y
  | 0 => h
  | j + 1 => by
    have ih := bf_keep h j
    show (bstep r u (bf r u x (k + j)) (k + j))[i]? = some y
    unfold bstep
    split
    · exact put_get (put_get ih)
    · exact ih
theorem pre_of {r u : List Nat} (h : bf r u 0 5 = [0, 1, 2, 3, 4]) : pre5 r u = true := by
  have e1 : bf r u 0 1 = put (put [0] (nx r 0)) (nx u 0) := rfl
  have k := fun (y : Nat) (z : (bf r u 0 1)[1]? = some y) => bf_keep z 4
  rw [show 1 + 4 = 5 from rfl, h, e1] at k
  unfold pre5
  by_cases c : nx r 0 = 0
  · rw [c] at k ⊢
    by_cases d : nx u 0 = 0
    · exfalso
      have hs : ∀ j, bf r u 0 j = [0] := by
        intro j
        induction j with
        | zero => rfl
        | succ j ih =>
          show bstep r u (bf r u 0 j) j = [0]
          rw [ih]
          unfold bstep
          cases j with
          | zero => show put (put [0] (nx r 0)) (nx u 0) = [0]; rw [c, d]; rfl
          | succ j => rfl
      rw [hs 5] at h; cases h
    · have := k (nx u 0) (by
        have : put [0] 0 = [0] := rfl
        rw [this]; unfold put
        rw [if_neg (by simpa using d)]; rfl)
      have e : 1 = nx u 0 := Option.some.inj this
      rw [← e]; rfl
  · have := k (nx r 0) (put_get (by unfold put; rw [if_neg (by simpa using c)]; rfl))
    have e : 1 = nx r 0 := Option.some.inj this
    rw [← e]; rfl
theorem lex_le {n : Nat} {p : PS2} (f : Fm n p) : ∀ k, k < n → lexN false (fkey p.1 p.2 k) (fkey p.1 p.2 0) = false := by
  obtain ⟨i, hi, hm, e⟩ := fo_is f.sh
  rw [f.fo] at e
  have c := (fo_is f.sh).can f.sh
  rw [f.fo] at c
  intro k hk
  have e0 : fkey p.1 p.2 0 = p.1 ++ p.2 := by
    have b : nbr p.1 p.2 0 = List.range n := by
      unfold nbr
      rw [c.ord]
      exact back_range n
    unfold fkey
    rw [b, ren_id f.sh.row, ren_id f.sh.col]
  have ei : fkey p.1 p.2 i = p.1 ++ p.2 := by
    unfold fkey
    have h1 := congrArg Prod.fst e
    have h2 := congrArg Prod.snd e
    dsimp only at h1 h2
    rw [← h1, ← h2]
  rw [e0, ← ei]
  exact hm k hk
theorem tst5_of {p : PS2} (f : Fm 5 p) : tst5 p = true := by
  have c := (fo_is f.sh).can f.sh
  rw [f.fo] at c
  have ob : ∀ k, k < 5 → order p.1 p.2 k = bf p.1 p.2 k 5 := fun k hk => order_by f.sh hk
  have b0 : bf p.1 p.2 0 5 = [0, 1, 2, 3, 4] := by rw [← ob 0 (by omega), c.ord]; rfl
  have kk : ∀ k, k < 5 → key8 5 p k = fkey p.1 p.2 k := fun k hk => by unfold key8 fkey nbr; rw [ob k hk]
  unfold tst5
  rw [pre_of b0, decide_eq_true b0]
  rw [Bool.true_and, Bool.true_and, List.all_eq_true]
  intro k hk
  have hk := List.mem_range.mp hk
  rw [kk k hk, kk 0 (by omega), lex_le f k hk]; rfl
theorem few5_gen (S : List PS2) (h : Nat.ble S.length 190 = true) (k : ∀ p, Fm 5 p → p ∈ S) : ∃ S : List PS2, S.length ≤ 190 ∧ ∀ p, Fm 5 p → p ∈ S := ⟨S, Nat.le_of_ble_eq_true h, k⟩
theorem few5_ex : ∃ S : List PS2, S.length ≤ 190 ∧ ∀ p, Fm 5 p → p ∈ S := few5_gen _ few5 fun p f => fsn_mem f.sh (tst5_of f)
theorem Gd.few5 {n : Nat} {L : Tl} (g : Gd n L) (hf : ∀ e ∈ L, Fm n e.1) (hn : n ≤ 5) : L.length ≤ 190 := by
  by_cases c : n ≤ 4
  · have := g.few c; omega
  · have e : n = 5 := by omega
    subst e
    obtain ⟨S, h1, h2⟩ := few5_ex
    have h := sub_len (L.map (·.1)) S g.nd fun p hp => by
      obtain ⟨e, he, rfl⟩ := List.mem_map.mp hp
      exact h2 _ (hf e he)
    rw [List.length_map] at h
    exact Nat.le_trans h h1
end Sq
namespace K1
open PySem L2 Sq
/-- what is told: the sheets with their words -/
def TS (H : Hp) (t : Addr) (L : Tl) : Prop := ∃ (ps : List Addr), H t = some (.lst (ps.map V.ref)) ∧ ps.length = L.length ∧
  (∀ (i : Nat) (p : Addr) (e : PS2 × List Nat), ps[i]? = some p → L[i]? = some e → ∃ b, H p = some (.tup [.ref b, .str (txt e.2)]) ∧ ShAt H b e.1.1 e.1.2)
theorem RS.ts {P : Program} {w : World} {H : Hp} {t d : Addr} {L : Tl} (h : RS P w H t d L) : TS H t L := let ⟨ps, _, h1, h2, h3, _⟩ := h; ⟨ps, h1, h2, h3⟩
theorem RS.tup {P : Program} {w : World} {H H' : Hp} {t d : Addr} {L : Tl} (h : RS P w H t d L) (o : Out t d H H') {c : Addr} {ys : List V} (e : H c = some (.tup ys)) : H' c = some (.tup ys) := by
  obtain ⟨ps, xs, h1, h2, h3, h4, h5⟩ := h
  exact o _ _ e (fun z => by rw [z, h1] at e; cases e) (h4.ne e)
theorem Out.same {H0 H H' : Hp} {t d : Addr} (s : Same H0 H) (ht : H0 t = none) (hd : H0 d = none) (o : Out t d H H') : Same H0 H' := fun c x e => o c x (s c x e) (fun z => by rw [z, ht] at e; cases e) (fun z => by rw [z, hd] at e; cases e)
theorem str_st : (Str.ofString "st") = txt [115, 116] := by decide +kernel
theorem str_e7 : (Str.ofString "") = txt [] := by decide +kernel
theorem least_fo {n x : Nat} {p : PS2} (s : Sheet n p.1 p.2) (h : Sq.Least n p.1 p.2 x) : IsFo n p (ren p.1 (nbr p.1 p.2 x), ren p.2 (nbr p.1 p.2 x)) := ⟨x, h.1, fun y hy => h.le s hy, rfl⟩
noncomputable def two (n : Nat) (e : PS2 × List Nat) (L : Tl) (i : Nat) : Tl := ([115, 116].take i).foldl (fun L c => putL L (fo n (mvp n c e.1)) (e.2 ++ [c])) L
def Wd7 (m : Nat) (L : Tl) : Prop := ∀ e ∈ L, e.2.length ≤ m ∧ ∀ c ∈ e.2, c = 115 ∨ c = 116
theorem put_T {T : PS2 → Prop} {L : Tl} {p : PS2} {z : List Nat} (h : ∀ e ∈ L, T e.1) (hp : T p) : ∀ e ∈ putL L p z, T e.1 := fun e he => by
  unfold putL at he
  split at he
  · exact h e he
  · have he : e ∈ L ∨ e = (p, z) := by simpa using he
    rcases he with he | rfl
    · exact h e he
    · exact hp
theorem put_most {L : Tl} {p : PS2} {z : List Nat} {m : Nat} (h : L.length ≤ m) (hm : has L p = false → L.length < m) : (putL L p z).length ≤ m := by
  unfold putL
  split
  · exact h
  · rename_i c
    have := hm (by simpa using c)
    simp; omega
def mu9 (j : Nat) (σ : St) : Nat := match σ[j]? with
  | some (some (.int k)) => (1000 - k).toNat
  | _ => 0
def spRe71 (P : Program) (w : World) (CT : Addr) : Sp := fun vs H Q E => ∃ (a : Addr) (n m N : Nat) (r u : List Nat) (Tp : PS2 → Prop), vs = [.ref a, .int (m : Int)] ∧ ShAt H a r u ∧ Sheet n r u ∧ N ≤ 190 ∧ Tp (fo n (r, u)) ∧ (∀ p c, Fm n p → Tp p → (c = 115 ∨ c = 116) → Tp (fo n (mvp n c p))) ∧ (∀ L : Tl, Gd n L → (∀ e ∈ L, Tp e.1) → L.length ≤ N) ∧
  (m < N → m < 100 ∧ ∀ H' : Hp, Same H H' → E (.ref CT) none H') ∧
  ∀ (H' : Hp) (t : Addr) (k : Nat), Same H H' → (cl n (r, u) k).length ≤ k → Gd n (cl n (r, u) k) → TS H' t (cl n (r, u) k) → (cl n (r, u) k).length ≤ m → Wd7 k (cl n (r, u) k) → k ≤ 190 → Q (.ref t) H'
section
variable {P : Program} {w : World} {K : PySem.W.Frag} {mg : Str → Option Value} {base : Heap}
abbrev n_re71 : List Str := ["sheet", "most", "told", "listed", "done", "here", "letter"]
theorem sc_re71 : FnScope n_re71 ["sheet", "most"] (defScope sReached) := ⟨rfl, rfl, rfl, by decide +kernel, rfl, by decide +kernel, by decide +kernel⟩
set_option maxHeartbeats 600000 in
theorem ok_re71 {f fp ff fm : Addr} {fd dp df dm : FuncData} {CW CT : Addr} (T : Bi mg) (F : Fn K mg "reached" sReached ["sheet", "most"] f fd) (FP : Fn K mg "put" sPut ["told", "listed", "pair", "most"] fp dp) (GP : FnOk P w K mg base (CX1 P w) 1 fp dp ["told", "listed", "pair", "most"] (spPu4 P w CT))
    (FF : Fn K mg "form" sForm ["sheet"] ff df) (GF : FnOk P w K mg base CX0 7 ff df ["sheet"] (spFm K))
    (FM : Fn K mg "moved" sMoved ["sheet", "word"] fm dm) (GM : FnOk P w K mg base (CX1 P w) 4 fm dm ["sheet", "word"] (spMd CW)) : FnOk P w K mg base (CX1 P w) 8 f fd ["sheet", "most"] (spRe71 P w CT) := by
  refine F.F.ok1 sc_re71 (fun vs H Q E h => ?_) (fun cdv A outer s H vs Q E hr h => ?_)
  · obtain ⟨a, n, m, N, r, u, Tp, rfl, _⟩ := h; rfl
  · obtain ⟨a, n, m, N, r, u, Tp, rfl, hsh, hS, hN71, h0, hcl, hN, hk2, k⟩ := h
    have hr1 : Room 1 _ := hr.mono (by decide)
    have hr4 : Room 4 _ := hr.mono (by decide)
    have hr7 : Room 7 _ := hr.mono (by decide)
    refine ⟨_, (pss_cons (ps_set (i := 2) sc_re71.nd rfl (Or.inl rfl) (pe_lst pa_nil))
      (pss_cons (ps_set (i := 3) sc_re71.nd rfl (Or.inl rfl) pe_dnewK)
      (pss_cons (ps_expr (pe_call GP hr1 rfl FP.m FP.F.kp FP.b .nil (pass1 fun _ _ _ z => z) (pa_cons (pv 2) (pa_cons (pv 3) (pa_cons (pe_tup (pa_cons (pe_call GF hr7 rfl FF.m FF.F.kp FF.b .nil pass0 (pa_cons (pv 0) pa_nil)) (pa_cons pe_str pa_nil))) (pa_cons (pv 1) pa_nil))))))
      (pss_cons (ps_set (i := 4) sc_re71.nd rfl (Or.inl rfl) pe_int)
      (pss_cons (ps_while PassesOwn.leaving (pt_cmpR op_lt (pv 4) (pe_callB call_len_seq rfl T.len PySem.boot_len (pa_cons (pv 2) pa_nil)) (nomark _)) (pss_cons (ps_set (i := 5) sc_re71.nd rfl (Or.inl rfl) (pe_ix ix_list (pv 2) (pv 4) (fun _ _ => rfl)))
      (pss_cons (ps_for PassesOwn.leaving rfl (pi_str pe_str) (pg_name (i := 6) sc_re71.nd rfl (Or.inl rfl)) (pss_one (ps_expr (pe_call GP hr1 rfl FP.m FP.F.kp FP.b .nil (pass1 fun _ _ _ z => z) (pa_cons (pv 2) (pa_cons (pv 3) (pa_cons (pe_tup (pa_cons (pe_call GF hr7 rfl FF.m FF.F.kp FF.b .nil pass0 (pa_cons (pe_call GM hr4 rfl FM.m FM.F.kp FM.b .nil passE0 (pa_cons (pe_ix ix_tup (pv 5) pe_int (fun _ _ => rfl)) (pa_cons (pv 6) pa_nil))) pa_nil)) (pa_cons (pe_op op_add_str (pe_ix ix_tup (pv 5) pe_int (fun _ _ => rfl)) (pv 6)) pa_nil))) (pa_cons (pv 1) pa_nil))))))))
      (pss_one (ps_aug (i := 4) sc_re71.nd rfl (Or.inl rfl) pe_int ip_add)))))
      (pss_one (ps_ret (pv 2)))))))), ?_⟩
    refine ⟨Nat.zero_le _, fun t ht => ?_⟩
    refine fun d hd => ?_
    have td : d ≠ t := by rintro rfl; rw [upd_same] at hd; cases hd
    have hd0 : H d = none := by rw [upd_ne td] at hd; exact hd
    have s1 : Same H (upd (upd H t (.lst [])) d (.dK [])) := same_upd (same_upd (Same.refl H) ht) hd0
    have R1 : RS P w (upd (upd H t (.lst [])) d (.dK [])) t d [] := ⟨[], [], by rw [upd_ne td.symm, upd_same]; rfl, rfl, fun i p e h => by simp at h, DS.nil upd_same, rfl⟩
    generalize upd (upd H t (.lst [])) d (.dK []) = H1 at s1 R1
    have four : 1000 ≤ sizeLine := by decide
    refine ⟨_, rfl, _, rfl, _, rfl, a, n, r, u, rfl, hsh.same s1, hS, fun H2 x b hL s2 hb => ?_⟩
    have hF := least_fo (p := (r, u)) hS hL
    have eF := fo_of (x := (r, u)) hS hF
    have cF := hF.can (x := (r, u)) hS
    refine ⟨by show 2 ≤ sizeLine; omega, fun p hp => ?_⟩
    have s3 : Same H2 (upd H2 p (.tup [.ref b, .str (Str.ofString "")])) := same_upd (Same.refl H2) hp
    refine ⟨_, rfl, t, d, p, b, [], _, _, [], m, rfl, R1.same (s2.trans s3), by rw [← str_e7]; exact upd_same, hb.same s3, by show 0 ≤ 900; omega, fun hh hml => ?_, fun H4 o4 R4 hl4 => ?_⟩
    · have g1 : Gd n (putL [] (ren r (nbr r u x), ren u (nbr r u x)) []) := Gd.one cF
      have := hN _ g1 (put_T (fun e he => nomatch he) (eF ▸ h0))
      have hmN : m < N := by
        have e1 : (putL [] (ren r (nbr r u x), ren u (nbr r u x)) ([] : List Nat)).length = 1 := rfl
        have hml : m ≤ 0 := hml
        omega
      obtain ⟨m20, hE⟩ := hk2 hmN
      exact ⟨m20, hE _ (s1.trans (s2.trans s3))⟩
    have l0 : (putL [] (ren r (nbr r u x), ren u (nbr r u x)) ([] : List Nat)).length ≤ m := put_most (Nat.zero_le _) hl4
    have s4 : Same H H4 := Out.same (s1.trans (s2.trans s3)) ht hd0 o4
    rw [← eF] at R4 cF l0
    have l0 : (cl n (r, u) 0).length ≤ m := l0
    have R4 : RS P w H4 t d (cl n (r, u) 0) := R4
    have g0 : Gd n (cl n (r, u) 0) := Gd.one cF
    have w0 : Wd7 0 (cl n (r, u) 0) := putL_words (L := []) (fun e he => nomatch he) ⟨Nat.le_refl _, fun c hc => nomatch hc⟩
    clear o4 hb s3 hp eF cF hF hL s2 R1 s1
    refine while_by (fun σ H2 => ∃ (kk : Nat) (o5 o6 : Option V), σ = [some (.ref a), some (.int (m : Int)), some (.ref t), some (.ref d), some (.int (kk : Int)), o5, o6] ∧ Same H H2 ∧ RS P w H2 t d (cl n (r, u) kk) ∧ Gd n (cl n (r, u) kk) ∧ Wd7 kk (cl n (r, u) kk) ∧ kk ≤ 190 ∧ (cl n (r, u) kk).length ≤ m) (fun σ _ => mu9 4 σ) ?_ ?_ ?_
    · exact ⟨0, _, _, rfl, s4, R4, g0, w0, by omega, l0⟩
    · rintro σ H5 ⟨kk, o5, o6, rfl, s5, R5, g5, w5, hk71, l5⟩
      obtain ⟨ps, xs, h1, h2, h3, h4, h5⟩ := id R5
      refine ⟨_, rfl, _, rfl, t, _, rfl, .inl (SqL.of h1), _, _, rfl, rfl, _, rfl, ?_⟩
      rw [List.length_map, h2]
      refine ite2 (fun hlt => ?_) (fun hge => ?_)
      · have hlt : (kk : Int) < ((cl n (r, u) kk).length : Int) := of_decide_eq_true hlt
        have hk : kk < (cl n (r, u) kk).length := by omega
        have fmT := cl_all (x := (r, u)) hS Tp h0 hcl kk
        have few := hN _ g5 fun e he => (fmT e he).2
        obtain ⟨e, he⟩ : ∃ e, (cl n (r, u) kk)[kk]? = some e := ⟨_, List.getElem?_eq_getElem hk⟩
        obtain ⟨p, hp⟩ : ∃ p, ps[kk]? = some p := ⟨_, List.getElem?_eq_getElem (by rw [h2]; exact hk)⟩
        obtain ⟨b, hpb, hbs⟩ := h3 kk p e hp he
        have ce := g5.can e (List.mem_of_getElem? he)
        obtain ⟨fe, te⟩ := fmT e (List.mem_of_getElem? he)
        have TM : ∀ x ∈ cl n (r, u) kk, Tp x.1 := fun x hx => (fmT x hx).2
        clear fmT
        have we := w5 e (List.mem_of_getElem? he)
        have next : cl n (r, u) (kk + 1) = two n e (cl n (r, u) kk) 2 := cl_next he
        generalize hMe : cl n (r, u) kk = M at *
        refine ⟨_, rfl, _, rfl, t, _, _, _, rfl, rfl, SqL.of h1, atI_nat (by rw [List.getElem?_map, hp]; rfl), ?_⟩
        refine ⟨_, rfl, for_str (fun i σ H6 => ∃ (o6 : Option V), σ = [some (.ref a), some (.int (m : Int)), some (.ref t), some (.ref d), some (.int (kk : Int)), some (.ref p), o6] ∧ Same H H6 ∧ RS P w H6 t d (two n e M i) ∧ Gd n (two n e M i) ∧ Wd7 (kk + 1) (two n e M i) ∧ H6 p = some (.tup [.ref b, .str (txt e.2)]) ∧ ShAt H6 b e.1.1 e.1.2 ∧ (∀ x ∈ two n e M i, Tp x.1) ∧ (two n e M i).length ≤ m) ⟨_, rfl, s5, R5, g5, (fun x hx => ⟨Nat.le_succ_of_le (w5 x hx).1, (w5 x hx).2⟩), hpb, hbs, TM, l5⟩ ?_ ?_⟩
        · rintro i c σ H6 hc ⟨o6, rfl, s6, R6, g6, w6, hpb, hbs, T6, l6⟩
          rw [str_st, txt_get] at hc
          have hst : c = 115 ∨ c = 116 := by
            match i, hc with
            | 0, hc => cases hc; exact .inl rfl
            | 1, hc => cases hc; exact .inr rfl
            | i + 2, hc => cases hc
          have hok : okW [c] = true := by rcases hst with rfl | rfl <;> decide
          have nxt : two n e M (i + 1) = putL (two n e M i) (fo n (mvp n c e.1)) (e.2 ++ [c]) := by unfold two; rw [List.take_add_one, hc, List.foldl_append]; rfl
          refine ⟨_, rfl, _, rfl, _, rfl, p, _, 0, _, rfl, rfl, SqT.of hpb, atI_nat (j := 0) rfl, ?_⟩
          refine ⟨_, rfl, b, [c], n, _, _, rfl, by show 1 ≤ 100000; omega, hbs, ce.sh.row, ce.sh.col, hS.most, fun _ H7 b7 s7 hb7 => ?_, fun z => by rw [hok] at z; cases z⟩
          have hS7 : Sheet n (mvp n c e.1).1 (mvp n c e.1).2 := mvp_sheet c ce.sh
          have hb7 : ShAt H7 b7 (mvp n c e.1).1 (mvp n c e.1).2 := hb7
          refine ⟨b7, n, _, _, rfl, hb7, hS7, fun H8 x8 b8 hL8 s8 hb8 => ?_⟩
          have hF := least_fo (p := mvp n c e.1) hS7 hL8
          have eF := fo_of (x := mvp n c e.1) hS7 hF
          have cF := hF.can (x := mvp n c e.1) hS7
          have hp8 := s8 _ _ (s7 _ _ hpb)
          refine ⟨_, rfl, p, _, 1, _, rfl, rfl, SqT.of hp8, atI_nat (j := 1) rfl, _, rfl, _, _, rfl, rfl, ?_, ?_⟩
          · rw [txt_len]; show e.2.length + 1 ≤ sizeLine; omega
          refine ⟨by show 2 ≤ sizeLine; omega, fun p9 hp9 => ?_⟩
          have s9 : Same H8 (upd H8 p9 (.tup [.ref b8, .str (txt e.2 ++ ⟨#[c]⟩)])) := same_upd (Same.refl H8) hp9
          have few6 := hN _ g6 T6
          have tF : Tp (fo n (mvp n c e.1)) := hcl _ _ fe te hst
          refine ⟨_, rfl, t, d, p9, b8, two n e M i, _, _, e.2 ++ [c], m, rfl, R6.same (s7.trans (s8.trans s9)), by rw [← txt_app, ← txt_one]; exact upd_same, hb8.same s9, by omega, fun hh hml => ?_, fun H10 o10 R10 hl10 => ?_⟩
          · rw [← eF] at cF hh
            have gs := g6.snoc (z := []) cF hh
            have := hN _ gs fun x hx => by
              have hx : x ∈ two n e M i ∨ x = (fo n (mvp n c e.1), []) := by simpa using hx
              rcases hx with hx | rfl
              · exact T6 x hx
              · exact tF
            rw [List.length_append, List.length_singleton] at this
            obtain ⟨m20, hE⟩ := hk2 (by omega)
            exact ⟨m20, hE _ (s6.trans (s7.trans (s8.trans s9)))⟩
          rw [← eF] at R10 cF hl10
          rw [← nxt] at R10
          have R69 := R6.same (s7.trans (s8.trans s9))
          refine ⟨_, rfl, Out.same (s6.trans (s7.trans (s8.trans s9))) ht hd0 o10, R10, by rw [nxt]; exact g6.put cF, by
            rw [nxt]
            refine putL_words w6 ⟨by rw [List.length_append]; show e.2.length + 1 ≤ kk + 1; omega, fun y hy => ?_⟩
            exact (List.mem_append.mp hy).elim (we.2 y) fun h => by rw [List.mem_singleton.mp h]; exact hst, R69.tup o10 (s9 _ _ hp8), sh_out (fun c ys h => R69.tup o10 h) (hbs.same (s7.trans (s8.trans s9))), by rw [nxt]; exact put_T T6 tF, by rw [nxt]; exact put_most l6 hl10⟩
        · rintro σ H6 ⟨o6, rfl, s6, R6, g6, w6, _, _, _, l6⟩
          rw [str_st, txt_len] at *
          have R6 : RS P w H6 t d (two n e M 2) := R6
          have g6 : Gd n (two n e M 2) := g6
          have w6 : Wd7 (kk + 1) (two n e M 2) := w6
          have l6 : (two n e M 2).length ≤ m := l6
          rw [← next] at R6 g6 w6 l6
          refine ⟨_, rfl, _, _, rfl, rfl, ⟨kk + 1, _, _, rfl, s6, R6, g6, w6, by omega, l6⟩, ?_⟩
          show (1000 - ((kk : Int) + 1)).toNat < (1000 - (kk : Int)).toNat
          omega
      · have hge : ¬ (kk : Int) < ((cl n (r, u) kk).length : Int) := fun z => hge (decide_eq_true z)
        exact ⟨_, rfl, k H5 t kk s5 (by omega) g5 R5.ts l5 w5 hk71⟩
    · rintro σ H Q Q' h ⟨v, e1, v', e2, p, ys, e3, sq, i, j, e4, e5, k, e6, q⟩
      exact ⟨v, e1, v', e2, p, ys, e3, sq, i, j, e4, e5, k, e6, h _ _ q⟩
end
theorem re71 {P : Program} {w : World} {CT : Addr} {H : Hp} {Q : VK} {E : XK} {a : Addr} {n : Nat} {r u : List Nat} (hsh : ShAt H a r u) (hS : Sheet n r u) (hn : n ≤ 5)
    (h : ∀ (H' : Hp) (t : Addr) (k : Nat), Same H H' → (cl n (r, u) k).length ≤ k → Gd n (cl n (r, u) k) → Wd7 k (cl n (r, u) k) → k ≤ 190 → TS H' t (cl n (r, u) k) → Q (.ref t) H') : spRe71 P w CT [.ref a, .int 200] H Q E :=
  ⟨a, n, 200, 190, r, u, (fun p => Fm n p), rfl, hsh, hS, Nat.le_refl _, fo_fm (x := (r, u)) hS, (fun p c f _ hc => fo_fm (mvp_sheet c f.sh)), (fun L gL hL => gL.few5 hL hn), (fun hm => absurd hm (by decide)), fun H' t k s h1 g ts _ w7 h9 => h H' t k s h1 g w7 h9 ts⟩
end K1
namespace K1
open PySem L2 Sq
theorem kit_str7 (K : PySem.W.Frag) : PySem.W.kitOne K (.type "str") (.type "str") = some true := by kernel_rfl
theorem boot_str : bootBuiltins "str" = some (.type "str") := by decide +kernel
def spPa71 : Sp := fun vs H Q _ => ∃ (t : Addr) (L : Tl), vs = [.ref t] ∧ TS H t L ∧ Q (.bl true) H
section
variable {P : Program} {w : World} {K : PySem.W.Frag} {mg : Str → Option Value} {base : Heap}
abbrev n_pa71 : List Str := ["_law_found", "_law_pair"]
theorem sc_pa71 : FnScope n_pa71 ["_law_found"] (defScope sLPairs) := ⟨rfl, rfl, rfl, by decide +kernel, rfl, by decide +kernel, by decide +kernel⟩
theorem ok_pa71 {f : Addr} {fd : FuncData} (T : Bi mg) (T_str : mg "str" = none) (F : Fn K mg "_law_pairs" sLPairs ["_law_found"] f fd) : FnOk P w K mg base CX0 1 f fd ["_law_found"] (spPa71) := by
  refine F.F.ok sc_pa71 (fun vs H Q E h => ?_) (fun cdv A outer s H vs Q E hr h => ?_)
  · obtain ⟨t, L, rfl, _⟩ := h; rfl
  · obtain ⟨t, L, rfl, ht, k⟩ := h
    refine ⟨_, (pss_cons (ps_if (pt_not (pt_val (pe_callB call_isinst rfl T.isin boot_isin (pa_cons (pv 0) (pa_cons (pe_bltn (v := .ty "list") rfl T.list boot_list rfl) pa_nil))))) (pss_one (ps_ret pe_bl)) pss_nil)
      (pss_cons (ps_for PassesOwn.never rfl (pi_list (pv 0)) (pg_name (i := 1) sc_pa71.nd rfl (Or.inl rfl)) (pss_one (ps_if (PW.pt (pw_or (pt_not (pt_val (pe_callB call_isinst rfl T.isin boot_isin (pa_cons (pv 1) (pa_cons (pe_bltn (v := .ty "tuple") rfl T.tuple boot_tuple rfl) pa_nil))))) (pw_or (pt_cmpR op_ne (pe_callB call_len_seq rfl T.len PySem.boot_len (pa_cons (pv 1) pa_nil)) pe_int (nomark _)) (pw_or1 (pt_not (pt_val (pe_callB call_isinst rfl T.isin boot_isin (pa_cons (pe_ix ix_tup (pv 1) pe_int (fun _ _ => rfl)) (pa_cons (pe_bltn (v := .ty "str") rfl T_str boot_str rfl) pa_nil))))))))) (pss_one (ps_ret pe_bl)) pss_nil)))
      (pss_one (ps_ret pe_bl)))), ?_⟩
    obtain ⟨ps, h1, h2, h3⟩ := id ht
    refine ⟨_, rfl, _, _, _, _, rfl, .lst h1, kit_list_list K, _, rfl, iteF ?_⟩
    refine ⟨_, rfl, t, rfl, ⟨_, SqL.of h1⟩, ?_⟩
    refine for_list (xs := ps.map V.ref) (fun i σ H2 => ∃ o1, σ = [some (.ref t), o1] ∧ H2 = H) ⟨_, rfl, rfl⟩ (fun i σ H2 _ ⟨_, _, e⟩ => by rw [e]; exact SqL.of h1) ?_ ?_
    · rintro i v σ H2 hv ⟨o1, rfl, rfl⟩
      rw [List.getElem?_map] at hv
      obtain ⟨p, hp, rfl⟩ := Option.map_eq_some_iff.mp hv
      have hi := (List.getElem?_eq_some_iff.mp hp).1
      obtain ⟨b, hb, _⟩ := h3 i p _ hp (List.getElem?_eq_getElem (by omega))
      refine ⟨_, rfl, _, _, _, _, rfl, .tup hb, kit_tup_tup K, _, rfl, iteF ?_⟩
      refine ⟨_, rfl, p, _, rfl, .inr (SqT.of hb), rfl, _, rfl, ?_⟩
      refine iteF ?_
      refine ⟨_, rfl, p, _, 1, _, rfl, rfl, SqT.of hb, atI_nat (j := 1) rfl, ?_⟩
      refine ⟨_, _, _, _, rfl, .str _, kit_str7 K, _, rfl, iteF ?_⟩
      exact ⟨_, rfl, rfl⟩
    · rintro σ H2 ⟨o1, rfl, rfl⟩
      exact k
end
end K1
namespace K1
open PySem L2 Sq
/-- [0 for k in row], row in the slot j -/
theorem compZero {K : PySem.W.Frag} {Hc : Hp} {p : Addr} {r : List Nat} {j : Nat} {Q : VK} {σ : St} (hj : σ[j]? = some (some (.ref p))) (hp : RowAt K Hc p r) (hn : r.length ≤ 36)
    (k : ∀ (H' : Hp) (d : Addr), Same Hc H' → Hc d = none → H' d = some (.lst (nv (List.replicate r.length 0))) → Q (.ref d) H') :
    tComp (fun σ H R => iList K (tVar j) σ H R ∨ iTup K (tVar j) σ H R) 1 [] (gName 0) (tC (.int 0)) σ Hc Q := by
  have core : ∀ (J : It), (∀ H3, Same Hc H3 → (∀ i, i < r.length → J.go i H3 ∧ ∀ x H2, J.yld i H3 x H2 → H2 = H3) ∧ J.stop r.length H3) → ∀ d, Hc d = none →
      ∃ W : Nat → Nat → St → Hp → Prop, (∃ m, W 0 m (bst 1 [] σ) (upd Hc d (.lst []))) ∧ ∀ i m σ' H', W i m σ' H' →
        (J.stop i H' ∧ Q (.ref d) H') ∨ (J.go i H' ∧ ∀ x H2, J.yld i H' x H2 → gName 0 x σ' H2 fun σ3 H3 => tC (.int 0) σ3 H3 fun y H4 => ∃ xs, H4 d = some (.lst xs) ∧ xs.length < sizeLine ∧ ∃ m', m' < m ∧ W (i + 1) m' σ3 (upd H4 d (.lst (xs ++ [y])))) := by
    intro J hJ d hd
    refine comp_by (Q := fun d H' => Q (.ref d) H') r.length (nv (List.replicate r.length 0)) (by simp [nv]) (fun i σ H3 => ∃ o, σ = [o] ∧ Same Hc H3) ⟨none, rfl, same_upd (Same.refl _) hd⟩ ?_ ?_
    · rintro i σ H3 hi ⟨o, rfl, s3⟩ hd3
      obtain ⟨g1, g2⟩ := (hJ H3 s3).1 i hi
      refine ⟨g1, fun x H4 hy => ?_⟩
      have e1 := g2 x H4 hy
      subst e1
      dsimp only [gName, tC]
      exact cpost hi (by omega) hd3 (show (nv (List.replicate r.length 0))[i]? = some (.int 0) from nv_get (x := 0) (by simp [hi])) ⟨_, rfl, same_upd s3 hd⟩
    · rintro σ H3 ⟨o, rfl, s3⟩ hd3
      exact ⟨(hJ H3 s3).2, k H3 d s3 hd hd3⟩
  rcases id hp with h | h
  · exact .inl ⟨_, hj, p, rfl, ⟨_, h⟩, core _ fun H3 s3 => ⟨fun i hi => ⟨⟨_, _, s3.seq h, nv_get (List.getElem?_eq_getElem hi)⟩, fun x H2 ⟨e, _⟩ => e⟩, ⟨_, s3.seq h, by rw [nv_len]; exact Nat.le_refl _⟩⟩⟩
  · exact .inr ⟨_, hj, p, rfl, ⟨_, h⟩, core _ fun H3 s3 => ⟨fun i hi => ⟨⟨_, _, Same.tseq s3 h, nv_get (List.getElem?_eq_getElem hi)⟩, fun x H2 ⟨e, _⟩ => e⟩, ⟨_, Same.tseq s3 h, by rw [nv_len]; exact Nat.le_refl _⟩⟩⟩
theorem ndK1 : (["_law_k"] : List Str).Nodup := by decide +kernel
end K1
namespace K1
open PySem L2 Sq
def spLBack (K : PySem.W.Frag) : Sp := fun vs H Q _ => ∃ (p : Addr) (n : Nat) (r : List Nat), vs = [.ref p] ∧ RowAt K H p r ∧ Row n r ∧ n ≤ 36 ∧ ∀ (H' : Hp) (l : Addr), Same H H' → H l = none → H' l = some (.lst (nv (back r))) → Q (.ref l) H'
section
variable {P : Program} {w : World} {K : PySem.W.Frag} {mg : Str → Option Value} {base : Heap}
abbrev nBk : List Str := ["_law_row_here", "_law_told", "_law_k"]
theorem scBk : FnScope nBk ["_law_row_here"] (defScope sLBack) := ⟨rfl, rfl, rfl, by decide +kernel, rfl, by decide +kernel, by decide +kernel⟩
theorem ok_lback {f : Addr} {fd : FuncData} (T : Bi mg) (F : Fn K mg "_law_back" sLBack ["_law_row_here"] f fd) : FnOk P w K mg base CX0 1 f fd ["_law_row_here"] (spLBack K) := by
  refine F.F.ok scBk (fun vs H Q E h => ?_) (fun cdv A outer s H vs Q E hr h => ?_)
  · obtain ⟨p, n, r, rfl, _⟩ := h; rfl
  · obtain ⟨p, n, r, rfl, hp, rr, hn, k⟩ := h
    refine ⟨_, pss_cons (ps_comp (j := 1) (N := nBk) (names := (defScope sLBack).names) (N' := ["_law_k"]) (k := 1) (pull := []) (te := tC (.int 0)) rfl scBk.nd rfl rfl
          ⟨by rfl, by decide +kernel, by decide +kernel, by rfl, by decide +kernel, by decide +kernel⟩ rfl rfl (PI.or (pi_list (pv 0)) (pi_tup (pv 0))) (fun _ _ _ _ _ _ => pg_name (i := 0) ndK1 rfl (Or.inl rfl)) (fun _ _ _ _ _ _ => pe_int))
      (pss_cons (ps_for PassesOwn.never rfl (pi_range1 rfl T.range (pa_cons (pe_callB call_len_seq rfl T.len PySem.boot_len (pa_cons (pv 0) pa_nil)) pa_nil)) (pg_name (i := 2) scBk.nd rfl (Or.inl rfl))
        (pss_one (ps_lput (pv 1) (pe_ix ix_seq (pv 0) (pv 2) (fun _ _ => rfl)) (pv 2) rfl)))
      (pss_one (ps_ret (pv 1)))), ?_⟩
    dsimp only [tSeq, tAsg]
    refine compZero rfl hp (by rw [rr.len]; omega) fun H1 l s1 hl0 hl => ?_
    rw [rr.len] at hl
    refine ⟨_, rfl, p, _, rfl, hp.same s1, (n : Int), by rw [nv_len, rr.len], by omega, by omega, ?_⟩
    rw [Int.toNat_natCast]
    refine for_range (n := n) (fun i σ H2 => ∃ o2 bl, σ = [some (.ref p), some (.ref l), o2] ∧ Same H H2 ∧ H2 l = some (.lst (nv bl)) ∧ bl.length = n ∧ ∀ k, k < i → bl[nx r k]? = some k)
      ⟨_, _, rfl, s1, hl, by simp, fun k hk => absurd hk (Nat.not_lt_zero _)⟩ ?_ ?_
    · rintro i σ H2 hi ⟨o2, bl, rfl, s2, h2, hbl, hall⟩
      have hyn := rr.nlt hi
      refine ⟨_, rfl, _, rfl, _, rfl, _, rfl, ?_⟩
      rw [show (0 : Int) + (i : Int) = (i : Int) from by omega]
      refine rowIx (hp.same s2) rr hi ?_
      refine ⟨l, _, _, nx r i, rfl, rfl, h2, ?_, ?_⟩
      · unfold ixN
        rw [if_pos (by omega), if_pos (by rw [nv_len, hbl]; omega)]
        simp
      refine ⟨_, bl.set (nx r i) i, rfl, same_upd s2 hl0, by rw [upd_same, nv_set], by rw [List.length_set]; exact hbl, fun k hk => ?_⟩
      rcases Nat.lt_or_ge k i with c | c
      · have hne : nx r i ≠ nx r k := fun z => by
          have := rr.inj hi (by omega) z
          omega
        rw [List.getElem?_set_ne hne]
        exact hall k c
      · have : k = i := by omega
        subst this
        rw [List.getElem?_set_self (by rw [hbl]; exact hyn)]
    · rintro σ H2 ⟨o2, bl, rfl, s2, h2, hbl, hall⟩
      have e := back_fill rr hbl hall
      subst e
      exact ⟨_, rfl, k _ l s2 hl0 h2⟩
end
end K1
namespace K1
open PySem L2 Sq
def spLm : Sp := fun vs H Q _ => ∃ (a : Addr) (c n : Nat) (r u : List Nat), vs = [.ref a, .str (txt [c])] ∧ ShAt H a r u ∧ Row n r ∧ Row n u ∧ n ≤ 36 ∧
  ∀ (H' : Hp) (b : Addr), Same H H' → ShAt H' b (mvp n c (r, u)).1 (mvp n c (r, u)).2 → Q (.ref b) H'
section
variable {P : Program} {w : World} {K : PySem.W.Frag} {mg : Str → Option Value} {base : Heap}
abbrev n_lm7 : List Str := ["_law_sheet_here", "_law_letter", "_law_first", "_law_second", "_law_left"]
theorem sc_lm7 : FnScope n_lm7 ["_law_sheet_here", "_law_letter"] (defScope sLMoved) := ⟨rfl, rfl, rfl, by decide +kernel, rfl, by decide +kernel, by decide +kernel⟩
theorem nd_lm7 : (["_law_k", "_law_second", "_law_left"] : List Str).Nodup := by decide +kernel
set_option maxHeartbeats 4000000 in
theorem ok_lm7 {f fb : Addr} {fd db : FuncData} (T : Bi mg) (F : Fn K mg "_law_moved" sLMoved ["_law_sheet_here", "_law_letter"] f fd) (FB : Fn K mg "_law_back" sLBack ["_law_row_here"] fb db) (GB : FnOk P w K mg base CX0 1 fb db ["_law_row_here"] (spLBack K)) : FnOk P w K mg base CX0 2 f fd ["_law_sheet_here", "_law_letter"] spLm := by
  refine F.F.ok sc_lm7 (fun vs H Q E h => ?_) (fun cdv A outer s H vs Q E hr h => ?_)
  · obtain ⟨a, c, n, r, u, rfl, _⟩ := h; rfl
  · obtain ⟨a, c, n, r, u, rfl, ⟨p, q, h1, h2, h3⟩, rr, ru, hn, k⟩ := h
    have hr1 : Room 1 _ := hr.mono (by decide)
    refine ⟨_, (pss_cons (ps_asg (pv 0) (pg_tup rfl (pgs_cons (pg_name (i := 2) sc_lm7.nd rfl (Or.inl rfl)) (pgs_cons (pg_name (i := 3) sc_lm7.nd rfl (Or.inr rfl)) pgs_nil))))
      (pss_cons (ps_if (pt_cmpR op_eq (pv 1) pe_str (nomark _)) (pss_cons (ps_set (i := 4) sc_lm7.nd rfl (Or.inr rfl) (pe_call GB hr rfl FB.m FB.F.kp FB.b .nil pass0 (pa_cons (pv 2) pa_nil)))
      (pss_one (ps_ret (pe_tup (pa_cons (pv 2) (pa_cons (pe_callTy call_tuple_of rfl T.tuple boot_tuple (pa_cons (pe_comp (N := n_lm7) (names := (defScope sLMoved).names) (N' := ["_law_k", "_law_second", "_law_left"]) (k := 1) (pull := [3, 4]) (te := (tOp (rIxT K) (tVar 1) (tOp (rIxL K) (tVar 2) (tVar 0)))) rfl ⟨by rfl, by decide +kernel, by decide +kernel, by rfl, by decide +kernel, by decide +kernel⟩ rfl rfl (pi_range1 rfl T.range (pa_cons (pe_callB call_len_seq rfl T.len PySem.boot_len (pa_cons (pv 4) pa_nil)) pa_nil)) (fun _ _ _ _ _ _ => pg_name (i := 0) nd_lm7 rfl (Or.inl rfl)) (fun _ _ _ _ _ _ => (pe_ix ix_tup (pv 1) (pe_ix ix_list (pv 2) (pv 0) (fun _ _ => rfl)) (fun _ _ => rfl)))) pa_nil)) pa_nil)))))) pss_nil)
      (pss_one (ps_ret (pe_tup (pa_cons (pe_callTy call_tuple_of rfl T.tuple boot_tuple (pa_cons (pe_call GB hr rfl FB.m FB.F.kp FB.b .nil pass0 (pa_cons (pv 3) pa_nil)) pa_nil)) (pa_cons (pv 2) pa_nil))))))), ?_⟩
    refine ⟨_, rfl, a, _, rfl, SqT.of h1, rfl, _, _, rfl, _, _, rfl, rfl, ?_⟩
    refine ⟨_, rfl, rfl, _, rfl, ?_⟩
    by_cases e : c = 115
    · subst e
      rw [decide_eq_true (congrArg V.str str_s.symm)]
      refine iteT ?_
      refine ⟨_, rfl, p, n, r, rfl, .inr (SqT.of h2), rr, hn, fun H1 l1 s1 _ hl1 => ?_⟩
      have rb := rr.back
      refine ⟨_, rfl, ?_⟩
      dsimp only [tCons, tCB]
      refine compRange (m := n) (rest := [some (.ref q), some (.ref l1)]) (fun i => nx u (nx (back r) i)) (fun R hR => ⟨_, rfl, l1, _, rfl, .inl (SqL.of hl1), by rw [nv_len, rb.len]; exact hR⟩) rfl (fun i H' R hi s' hR => ?_) (by omega) fun H2 d s2 _ hd => ?_
      · refine ⟨_, rfl, _, rfl, _, rfl, l1, _, _, _, rfl, rfl, SqL.of (s' _ _ hl1), atI_nat (nv_get (rb.get hi)), ?_⟩
        exact ⟨q, _, _, _, rfl, rfl, SqT.of (s' _ _ (s1 _ _ h3)), atI_nat (nv_get (ru.get (rb.nlt hi))), hR⟩
      have s12 := s1.trans s2
      refine ⟨d, _, rfl, .inl ⟨SqL.of hd, fun t ht => ?_⟩⟩
      have s3 := same_upd (o := .tup (nv ((List.range n).map fun i => nx u (nx (back r) i)))) s12 (s12.free ht)
      refine ⟨by show 2 ≤ sizeLine; decide, fun b hb => k _ b (same_upd s3 (s3.free hb)) ⟨p, t, upd_same, ?_, ?_⟩⟩
      · have := s3 _ _ h2
        rw [upd_ne (ne_of_none this hb)]; exact this
      · rw [upd_ne (ne_of_none upd_same hb), upd_same]; rfl
    · rw [decide_eq_false (fun z => e (by have := txt_inj ((V.str.inj z).trans str_s); simpa using this))]
      refine iteF ?_
      refine ⟨_, rfl, q, n, u, rfl, .inr (SqT.of h3), ru, hn, fun H1 l1 s1 _ hl1 => ?_⟩
      refine ⟨l1, _, rfl, .inl ⟨SqL.of hl1, fun t ht => ?_⟩⟩
      have s3 := same_upd (o := .tup (nv (back u))) s1 (s1.free ht)
      refine ⟨_, rfl, by show 2 ≤ sizeLine; decide, fun b hb => k _ b (same_upd s3 (s3.free hb)) ?_⟩
      have em : mvp n c (r, u) = (back u, r) := by unfold mvp; rw [if_neg e]
      rw [em]
      refine ⟨t, p, upd_same, ?_, ?_⟩
      · rw [upd_ne (ne_of_none upd_same hb), upd_same]
      · have := s3 _ _ h2
        rw [upd_ne (ne_of_none this hb)]; exact this
end
end K1
namespace K1
open PySem L2 Sq
end K1
namespace K1
open PySem L2 Sq
def spMt : Sp := fun vs H Q _ => ∃ (a : Addr) (n : Nat) (r u : List Nat) (x : Nat), vs = [.ref a, .int (x : Int)] ∧ ShAt H a r u ∧ Sheet n r u ∧ x < n ∧
  ∀ (H' : Hp) (l : Addr), Same H H' → H l = none → Row n (order r u x) → H' l = some (.lst (nv (order r u x))) → Q (.ref l) H'
section
variable {P : Program} {w : World} {K : PySem.W.Frag} {mg : Str → Option Value} {base : Heap}
abbrev nMt : List Str := ["_law_sheet_here", "_law_start", "_law_met_here", "_law_at", "_law_row_here"]
theorem scMt : FnScope nMt ["_law_sheet_here", "_law_start"] (defScope sMet) := ⟨rfl, rfl, rfl, by decide +kernel, rfl, by decide +kernel, by decide +kernel⟩
theorem ok_mt {f : Addr} {fd : FuncData} (T : Bi mg) (F : Fn K mg "_law_met" sMet ["_law_sheet_here", "_law_start"] f fd) : FnOk P w K mg base CX0 1 f fd ["_law_sheet_here", "_law_start"] spMt := by
  refine F.F.ok scMt (fun vs H Q E h => ?_) (fun cdv A outer s H vs Q E hr h => ?_)
  · obtain ⟨a, n, r, u, x, rfl, _⟩ := h; rfl
  · obtain ⟨a, n, r, u, x, rfl, hsh, hS, hx, k2⟩ := h
    refine ⟨_, pss_cons (ps_set (i := 2) scMt.nd rfl (Or.inl rfl) (pe_lst (pa_cons (pv 1) pa_nil)))
      (pss_cons (ps_set (i := 3) scMt.nd rfl (Or.inl rfl) pe_int)
      (pss_cons (ps_while PassesOwn.never (pt_cmpR op_lt (pv 3) (pe_callB call_len_seq (by rfl) T.len PySem.boot_len (pa_cons (pv 2) pa_nil)) (nomark _))
        (pss_cons (ps_for PassesOwn.never rfl (pi_tup (pv 0)) (pg_name (i := 4) scMt.nd rfl (Or.inl rfl))
          (pss_one (ps_if (pt_cmpR op_notIn_seq (pe_ix ix_tup (pv 4) (pe_ix ix_list (pv 2) (pv 3) (fun _ _ => rfl)) (fun _ _ => rfl)) (pv 2) rfl)
            (pss_one (ps_expr (pe_bm PySem.F.plainAttrs_list PySem.F.slot_list_append PySem.F.type_list_append mt_append (pv 2) (pa_cons (pe_ix ix_tup (pv 4) (pe_ix ix_list (pv 2) (pv 3) (fun _ _ => rfl)) (fun _ _ => rfl)) pa_nil)))) pss_nil)))
        (pss_one (ps_set (i := 3) scMt.nd rfl (Or.inl rfl) (pe_op op_add (pv 3) pe_int)))))
      (pss_one (ps_ret (pv 2))))), ?_⟩
    have hm := hS.most
    obtain ⟨p, q, h1, h2, h3⟩ := id hsh
    refine ⟨_, rfl, (by show 1 ≤ sizeLine; decide), fun lf hlf => ?_⟩
    refine while_by (fun σ H2 => ∃ (kk : Nat) (o5 : Option V), σ = [some (.ref a), some (.int (x : Int)), some (.ref lf), some (.int (kk : Int)), o5] ∧ Same H H2 ∧ H2 lf = some (.lst (nv (bf r u x kk))) ∧ Met n r u x (bf r u x kk) kk) (fun σ _ => mu 3 σ) ?_ ?_ ?_
    · exact ⟨0, _, rfl, same_upd (Same.refl H) hlf, upd_same, Met.start hx⟩
    · rintro σ H2 ⟨kk, o5, rfl, s2, h2l, hM⟩
      refine ⟨_, rfl, _, rfl, lf, _, rfl, .inl (SqL.of h2l), _, _, rfl, rfl, _, rfl, ?_⟩
      rw [nv_len]
      refine ite2 (fun hlt => ?_) (fun hge => ?_)
      · have hlt : (kk : Int) < ((bf r u x kk).length : Int) := of_decide_eq_true hlt
        have hk : kk < (bf r u x kk).length := by omega
        obtain ⟨y, hy⟩ : ∃ y, (bf r u x kk)[kk]? = some y := ⟨_, List.getElem?_eq_getElem hk⟩
        have hyn : y < n := hM.lt _ (List.mem_of_getElem? hy)
        have hMl := hM.len
        generalize hMe : bf r u x kk = M at *
        refine ⟨_, rfl, a, rfl, ⟨_, SqT.of (s2 _ _ h1)⟩, ?_⟩
        refine for_tup (K := K) (a := a) (xs := [.ref p, .ref q]) (fun i σ H3 => ∃ (o5 : Option V), σ = [some (.ref a), some (.int (x : Int)), some (.ref lf), some (.int (kk : Int)), o5] ∧ Same H H3 ∧
          H3 lf = some (.lst (nv (([nx r y, nx u y].take i).foldl put M)))) ?_ ?_ ?_ ?_
        · exact ⟨_, rfl, s2, h2l⟩
        · rintro i σ H3 hi ⟨_, _, s3, _⟩
          exact SqT.of (s3 _ _ h1)
        · rintro i v σ H3 hi ⟨o5, rfl, s3, h3l⟩
          obtain ⟨b, row, rfl, hrow, rrow, ey⟩ : ∃ b row, v = V.ref b ∧ H b = some (.tup (nv row)) ∧ Row n row ∧ [nx r y, nx u y][i]? = some (nx row y) := by
            match i, hi with
            | 0, hi => cases hi; exact ⟨p, r, rfl, h2, hS.row, rfl⟩
            | 1, hi => cases hi; exact ⟨q, u, rfl, h3, hS.col, rfl⟩
            | i + 2, hi => cases hi
          have hlen := foldl_put_len ([nx r y, nx u y].take i) M
          have htk : ([nx r y, nx u y].take i).length ≤ 2 := by rw [List.length_take]; exact Nat.min_le_right _ _
          have hfold : ([nx r y, nx u y].take (i + 1)).foldl put M = put (([nx r y, nx u y].take i).foldl put M) (nx row y) := by
            rw [List.take_add_one, ey, List.foldl_append]; rfl
          rw [hfold]
          have hget : (([nx r y, nx u y].take i).foldl put M)[kk]? = some y := by
            have : ∀ (l M' : List Nat), M'[kk]? = some y → (l.foldl put M')[kk]? = some y := by
              intro l
              induction l with
              | nil => intro M' h; exact h
              | cons a l ih => intro M' h; exact ih _ (put_get h)
            exact this _ _ hy
          generalize hM' : ([nx r y, nx u y].take i).foldl put M = M' at h3l hlen hget
          refine ⟨_, rfl, _, rfl, _, rfl, lf, _, _, _, rfl, rfl, SqL.of h3l, atI_nat (nv_get hget), ?_⟩
          refine ⟨b, _, _, _, rfl, rfl, SqT.of (s3 _ _ hrow), atI_nat (nv_get (rrow.get hyn)), ?_⟩
          refine ⟨_, rfl, lf, _, rfl, .inl (SqL.of h3l), rfl, nv_flat _, _, rfl, ?_⟩
          show (if (!inV (.int ((nx row y : Nat) : Int)) (nv M')) = true then _ else _)
          rw [inV_nv]
          by_cases hm' : nx row y ∈ M'
          · rw [decide_eq_true hm']
            refine iteF ?_
            refine ⟨_, rfl, s3, ?_⟩
            unfold put; rw [if_pos hm']; exact h3l
          · rw [decide_eq_false hm']
            refine iteT ?_
            refine ⟨_, rfl, .inl ⟨rfl, _, SqL.of h3l⟩, _, rfl, _, rfl, _, rfl, lf, _, _, _, rfl, rfl, SqL.of h3l, atI_nat (nv_get hget), ?_⟩
            refine ⟨b, _, _, _, rfl, rfl, SqT.of (s3 _ _ hrow), atI_nat (nv_get (rrow.get hyn)), ?_⟩
            refine ⟨lf, _, _, rfl, rfl, h3l, ?_, ?_⟩
            · rw [nv_len]; exact small1000 (by omega)
            refine ⟨_, rfl, same_upd s3 hlf, ?_⟩
            unfold put; rw [if_neg hm', upd_same, nv_snoc]
        · rintro σ H3 ⟨o5, rfl, s3, h3l⟩
          have e : bf r u x (kk + 1) = put (put M (nx r y)) (nx u y) := by
            rw [← hMe]; exact bf_next (by rw [hMe]; exact hy)
          refine ⟨_, rfl, _, _, rfl, rfl, ⟨kk + 1, _, rfl, s3, by rw [e]; exact h3l, by rw [e]; exact hM.step hS.row hS.col hy⟩, ?_⟩
          show (100 - ((kk : Int) + 1)).toNat < (100 - (kk : Int)).toNat
          omega
      · have hge : ¬ (kk : Int) < ((bf r u x kk).length : Int) := fun z => hge (decide_eq_true z)
        obtain ⟨e, ro⟩ := hM.order hS (by omega)
        rw [e] at h2l
        exact ⟨_, rfl, k2 _ lf s2 hlf ro h2l⟩
    · rintro σ H Q Q' h ⟨v, e1, v', e2, p, ys, e3, sq, i, j, e4, e5, k, e6, q⟩
      exact ⟨v, e1, v', e2, p, ys, e3, sq, i, j, e4, e5, k, e6, h _ _ q⟩
end
end K1
namespace Sq
section
variable {n nb : Nat} {r u rb ub m m' : List Nat}
theorem getD_eq {l : List Nat} {k : Nat} (h : k < l.length) : nx l k = l[k] := by
  show l.getD k 0 = _
  rw [List.getD_eq_getElem?_getD, List.getElem?_eq_getElem h]; rfl
theorem list_ext {l l' : List Nat} (h : l.length = l'.length) (e : ∀ k, k < l.length → nx l k = nx l' k) : l = l' := by
  refine List.ext_getElem h fun k h1 h2 => ?_
  have := e k h1
  rw [getD_eq h1, getD_eq h2] at this
  exact this
end
end Sq
namespace K1
open PySem L2 Sq
/-- [0 for k in row], row a tuple -/
theorem compZeroT {K : PySem.W.Frag} {Hc : Hp} {p : Addr} {r : List Nat} {tl : TE} {Q : VK} {σ : St} (hj : ∀ R : VK, R (.ref p) Hc → tl σ Hc R) (hp : SqT K Hc p (nv r)) (hn : r.length ≤ 36)
    (k : ∀ (H' : Hp) (d : Addr), Same Hc H' → Hc d = none → H' d = some (.lst (nv (List.replicate r.length 0))) → Q (.ref d) H') :
    tComp (iTup K tl) 1 [] (gName 0) (tC (.int 0)) σ Hc Q := by
  refine hj _ ⟨p, rfl, ⟨_, hp⟩, fun d hd => ?_⟩
  refine comp_by (Q := fun d H' => Q (.ref d) H') r.length (nv (List.replicate r.length 0)) (by simp [nv]) (fun i σ H3 => ∃ o, σ = [o] ∧ Same Hc H3) ⟨none, rfl, same_upd (Same.refl _) hd⟩ ?_ ?_
  · rintro i σ H3 hi ⟨o, rfl, s3⟩ hd3
    refine ⟨⟨_, _, Same.tseq s3 hp, nv_get (List.getElem?_eq_getElem hi)⟩, fun x H4 ⟨e1, _⟩ => ?_⟩
    subst e1
    dsimp only [gName, tC]
    exact cpost hi (by omega) hd3 (show (nv (List.replicate r.length 0))[i]? = some (.int 0) from nv_get (x := 0) (by simp [hi])) ⟨_, rfl, same_upd s3 hd⟩
  · rintro σ H3 ⟨o, rfl, s3⟩ hd3
    exact ⟨⟨_, Same.tseq s3 hp, by rw [nv_len]; exact Nat.le_refl _⟩, k H3 d s3 hd hd3⟩
def fillN (n : Nat) (o : List Nat) (i : Nat) : List Nat := (List.range n).map fun x => if o.idxOf x < i then o.idxOf x else 0
theorem fillN_zero (n : Nat) (o : List Nat) : fillN n o 0 = List.replicate n 0 := by
  unfold fillN
  rw [List.eq_replicate_iff]
  exact ⟨by simp, fun b hb => by obtain ⟨x, _, rfl⟩ := List.mem_map.mp hb; rfl⟩
theorem fillN_full {n : Nat} {o : List Nat} (ro : Row n o) : fillN n o n = back o := by
  refine list_ext (by rw [ro.back.len]; simp [fillN]) fun k hk => ?_
  have hk : k < n := by simpa [fillN] using hk
  rw [back_nx ro hk, getD_eq (by simpa [fillN] using hk)]
  simp [fillN, ro.idx_lt hk]
theorem fillN_step {n : Nat} {o : List Nat} {i y : Nat} (ro : Row n o) (hi : i < n) (hy : o[i]? = some y) : (fillN n o i).set y i = fillN n o (i + 1) := by
  refine List.ext_getElem? fun k => ?_
  by_cases hk : k < n
  · have ey : nx o i = y := by show o.getD i 0 = y; rw [List.getD_eq_getElem?_getD, hy]; rfl
    by_cases e : y = k
    · subst e
      have e2 : o.idxOf y = i := by rw [← ey]; exact ro.idx_nx hi
      rw [List.getElem?_set_self (by simpa [fillN] using hk)]
      simp [fillN, hk, e2]
    · rw [List.getElem?_set_ne e]
      have e2 : o.idxOf k ≠ i := fun z => e (by rw [← ey, ← z]; exact ro.nx_idx hk)
      simp only [fillN, List.getElem?_map, List.getElem?_range hk, Option.map_some]
      congr 1
      by_cases c : o.idxOf k < i
      · rw [if_pos c, if_pos (by omega)]
      · rw [if_neg c, if_neg (by omega)]
  · rw [List.getElem?_eq_none (by simp [fillN]; omega), List.getElem?_eq_none (by simp [fillN]; omega)]
def spNu (K : PySem.W.Frag) : Sp := fun vs H Q _ => ∃ (a : Addr) (n : Nat) (r u : List Nat) (x : Nat), vs = [.ref a, .int (x : Int)] ∧ ShAt H a r u ∧ Sheet n r u ∧ x < n ∧
  ∀ (H' : Hp) (l : Addr), Same H H' → H l = none → Row n (back (order r u x)) → H' l = some (.lst (nv (back (order r u x)))) → Q (.ref l) H'
section
variable {P : Program} {w : World} {K : PySem.W.Frag} {mg : Str → Option Value} {base : Heap}
abbrev n_nu : List Str := ["_law_sheet_here", "_law_start", "_law_f", "_law_number", "_law_k"]
theorem sc_nu : FnScope n_nu ["_law_sheet_here", "_law_start"] (defScope sLNumbered) := ⟨rfl, rfl, rfl, by decide +kernel, rfl, by decide +kernel, by decide +kernel⟩
theorem nd_nu : (["_law_k"] : List Str).Nodup := by decide +kernel
theorem ok_nu {f fm : Addr} {fd dm : FuncData} (T : Bi mg) (F : Fn K mg "_law_numbered" sLNumbered ["_law_sheet_here", "_law_start"] f fd) (FM : Fn K mg "_law_met" sMet ["_law_sheet_here", "_law_start"] fm dm) (GM : FnOk P w K mg base CX0 1 fm dm ["_law_sheet_here", "_law_start"] spMt) : FnOk P w K mg base CX0 2 f fd ["_law_sheet_here", "_law_start"] (spNu K) := by
  refine F.F.ok sc_nu (fun vs H Q E h => ?_) (fun cdv A outer s H vs Q E hr h => ?_)
  · obtain ⟨a, n, r, u, x, rfl, _⟩ := h; rfl
  · obtain ⟨a, n, r, u, x, rfl, hsh, hS, hx, k⟩ := h
    have hr1 : Room 1 _ := hr.mono (by decide)
    refine ⟨_, (pss_cons (ps_comp (j := 2) (N := n_nu) (names := (defScope sLNumbered).names) (N' := ["_law_k"]) (k := 1) (pull := []) (te := (tC (.int 0))) rfl sc_nu.nd rfl rfl ⟨by rfl, by decide +kernel, by decide +kernel, by rfl, by decide +kernel, by decide +kernel⟩ rfl rfl (pi_tup (pe_ix ix_tup (pv 0) pe_int (fun _ _ => rfl))) (fun _ _ _ _ _ _ => pg_name (i := 0) nd_nu rfl (Or.inl rfl)) (fun _ _ _ _ _ _ => pe_int))
      (pss_cons (ps_for PassesOwn.never rfl (pi_enumL rfl T.enum (pa_cons (pe_call GM hr1 rfl FM.m FM.F.kp FM.b .nil pass0 (pa_cons (pv 0) (pa_cons (pv 1) pa_nil))) pa_nil)) (pg_tupE rfl (pgs_cons (pg_name (i := 3) sc_nu.nd rfl (Or.inl rfl)) (pgs_cons (pg_name (i := 4) sc_nu.nd rfl (Or.inl rfl)) pgs_nil))) (pss_one (ps_lput (pv 2) (pv 4) (pv 3) rfl)))
      (pss_one (ps_ret (pv 2))))), ?_⟩
    obtain ⟨p, q, h1, h2, h3⟩ := id hsh
    have hm := hS.most
    dsimp only [tSeq, tAsg]
    refine compZeroT (p := p) (r := r) (fun R hR => ⟨_, rfl, a, _, 0, _, rfl, rfl, SqT.of h1, atI_nat (j := 0) rfl, hR⟩) (SqT.of h2) (by rw [hS.row.len]; exact hm) fun H1 lf s1 hlf0 hlf => ?_
    rw [hS.row.len] at hlf
    dsimp only [tSeq, tAsg, gName]
    refine ⟨_, rfl, _, rfl, a, n, r, u, x, rfl, hsh.same s1, hS, hx, fun H2 l s2 hl0 ro hl => ?_⟩
    have hlf2 := s2 _ _ hlf
    have nl : l ≠ lf := fun e => by rw [e, hlf] at hl0; cases hl0
    revert k hl ro
    generalize order r u x = o
    intro k ro hl
    refine ⟨l, rfl, ⟨_, SqL.of hl⟩, for_en (xs := nv o) (fun i σ H3 => ∃ o3 o4, σ = [some (.ref a), some (.int (x : Int)), some (.ref lf), o3, o4] ∧ Same H H3 ∧ H3 l = some (.lst (nv o)) ∧ H3 lf = some (.lst (nv (fillN n o i)))) ⟨_, _, rfl, s1.trans s2, hl, by rw [fillN_zero]; exact hlf2⟩ (fun i σ H3 _ ⟨_, _, _, _, h, _⟩ => SqL.of h) ?_ ?_⟩
    · rintro i v σ H3 T' hv hT ⟨o3, o4, rfl, s3, hl3, hlf3⟩
      obtain ⟨y, hy, rfl⟩ := nv_get' hv
      have hi : i < n := by rw [← ro.len]; exact (List.getElem?_eq_some_iff.mp hy).1
      have hyn : y < n := ro.lt y (List.mem_of_getElem? hy)
      have uT := same_upd (o := tupE T' [.int (i : Int), .int (y : Int)]) (Same.refl H3) hT
      refine ⟨T', _, rfl, upd_same, rfl, _, _, rfl, _, _, rfl, rfl, ?_⟩
      revert uT
      generalize (upd H3 T' (tupE T' [.int (i : Int), .int (y : Int)])) = H4
      intro uT
      have h4 := uT _ _ hlf3
      refine ⟨_, rfl, _, rfl, _, rfl, lf, _, _, y, rfl, rfl, h4, ?_, ?_⟩
      · unfold ixN
        rw [if_pos (by omega), if_pos (by rw [nv_len]; simp [fillN]; omega)]
        simp
      · refine ⟨_, _, rfl, same_upd (s3.trans uT) hlf0, ?_, ?_⟩
        · rw [upd_ne nl]; exact uT _ _ hl3
        · rw [upd_same, nv_set, fillN_step ro hi hy]
    · rintro σ H3 ⟨o3, o4, rfl, s3, hl3, hlf3⟩
      rw [nv_len, ro.len, fillN_full ro] at hlf3
      exact ⟨_, rfl, k _ lf s3 hlf0 ro.back hlf3⟩
end
end K1
namespace K1
open PySem L2 Sq
/-- the row r, its squares k renumbered f[k] -/
def renum (f r : List Nat) : List Nat := (List.range f.length).map fun x => nx f (nx r (f.idxOf x))
theorem renum_len (f r : List Nat) : (renum f r).length = f.length := by simp [renum]
theorem renum_fill {n : Nat} {f r bl : List Nat} (hf : Row n f) (hl : bl.length = n) (h : ∀ k, k < n → bl[nx f k]? = some (nx f (nx r k))) : bl = renum f r := by
  refine List.ext_getElem? fun x => ?_
  by_cases hx : x < n
  · have e := h (f.idxOf x) (hf.idx_lt hx)
    rw [hf.nx_idx hx] at e
    rw [e]
    have : x < f.length := by rw [hf.len]; exact hx
    simp [renum, this]
  · rw [List.getElem?_eq_none (by omega), List.getElem?_eq_none (by rw [renum_len, hf.len]; omega)]
def spRenum (K : PySem.W.Frag) : Sp := fun vs H Q _ => ∃ (a p : Addr) (n : Nat) (r u f : List Nat), vs = [.ref a, .ref p] ∧ ShAt H a r u ∧ RowAt K H p f ∧ Row n r ∧ Row n u ∧ Row n f ∧ n ≤ 36 ∧ ∀ (H' : Hp) (b : Addr), Same H H' → ShAt H' b (renum f r) (renum f u) → Q (.ref b) H'
section
variable {P : Program} {w : World} {K : PySem.W.Frag} {mg : Str → Option Value} {base : Heap}
abbrev nRn : List Str := ["_law_sheet_here", "_law_f", "_law_told", "_law_row_here", "_law_anew", "_law_k"]
theorem scRn : FnScope nRn ["_law_sheet_here", "_law_f"] (defScope sLRenumbered) := ⟨rfl, rfl, rfl, by decide +kernel, rfl, by decide +kernel, by decide +kernel⟩
set_option maxHeartbeats 1000000 in
theorem ok_renum {f : Addr} {fd : FuncData} (T : Bi mg) (F : Fn K mg "_law_renumbered" sLRenumbered ["_law_sheet_here", "_law_f"] f fd) : FnOk P w K mg base CX0 1 f fd ["_law_sheet_here", "_law_f"] (spRenum K) := by
  refine F.F.ok scRn (fun vs H Q E h => ?_) (fun cdv A outer s H vs Q E hr h => ?_)
  · obtain ⟨a, p, n, r, u, g, rfl, _⟩ := h; rfl
  · obtain ⟨a, pf, n, r, u, g, rfl, ⟨p, q, h1, h2, h3⟩, hg, rr, ru, rg, hn, k⟩ := h
    refine ⟨_, pss_cons (ps_set (i := 2) scRn.nd rfl (Or.inl rfl) (pe_lst pa_nil))
      (pss_cons (ps_for PassesOwn.never rfl (pi_tup (pv 0)) (pg_name (i := 3) scRn.nd rfl (Or.inl rfl))
        (pss_cons (ps_comp (j := 4) (N := nRn) (names := (defScope sLRenumbered).names) (N' := ["_law_k"]) (k := 1) (pull := []) (te := tC (.int 0)) rfl scRn.nd rfl rfl
          ⟨by rfl, by decide +kernel, by decide +kernel, by rfl, by decide +kernel, by decide +kernel⟩ rfl rfl (PI.or (pi_list (pv 1)) (pi_tup (pv 1))) (fun _ _ _ _ _ _ => pg_name (i := 0) ndK1 rfl (Or.inl rfl)) (fun _ _ _ _ _ _ => pe_int))
        (pss_cons (ps_for PassesOwn.never rfl (pi_range1 rfl T.range (pa_cons (pe_callB call_len_seq rfl T.len PySem.boot_len (pa_cons (pv 1) pa_nil)) pa_nil)) (pg_name (i := 5) scRn.nd rfl (Or.inl rfl))
          (pss_one (ps_lput (pv 4) (pe_ix ix_seq (pv 1) (pv 5) (fun _ _ => rfl)) (pe_ix ix_seq (pv 1) (pe_ix ix_seq (pv 3) (pv 5) (fun _ _ => rfl)) (fun _ _ => rfl)) rfl)))
        (pss_one (ps_expr (pe_bm PySem.F.plainAttrs_list PySem.F.slot_list_append PySem.F.type_list_append mt_append (pv 2) (pa_cons (pe_callTy call_tuple_of rfl T.tuple boot_tuple (pa_cons (pv 4) pa_nil)) pa_nil)))))))
      (pss_one (ps_ret (pe_tup (pa_cons (pe_ix ix_list (pv 2) pe_int (fun _ _ => rfl)) (pa_cons (pe_ix ix_list (pv 2) pe_int (fun _ _ => rfl)) pa_nil)))))), ?_⟩
    refine ⟨Nat.zero_le _, fun l hl => ?_⟩
    refine ⟨_, rfl, a, rfl, ⟨_, SqT.of (by rw [upd_ne (ne_of_none h1 hl)]; exact h1)⟩, for_tup (K := K) (a := a) (xs := [.ref p, .ref q]) (fun i σ H2 => ∃ (o3 o4 o5 : Option V) (ts : List Addr), σ = [some (.ref a), some (.ref pf), some (.ref l), o3, o4, o5] ∧ Same H H2 ∧ ts.length = i ∧ H2 l = some (.lst (ts.map V.ref)) ∧
      ∀ (j : Nat) (t : Addr), ts[j]? = some t → t ≠ l ∧ ∃ row, [r, u][j]? = some row ∧ H2 t = some (.tup (nv (renum g row)))) ?_ ?_ ?_ ?_⟩
    · exact ⟨_, _, _, [], rfl, same_upd (Same.refl H) hl, rfl, upd_same, fun j t e => by simp at e⟩
    · rintro i σ H2 _ ⟨_, _, _, _, _, s2, _⟩
      exact SqT.of (s2 _ _ h1)
    · rintro i x σ H2 hx ⟨o3, o4, o5, ts, rfl, s2, hts, h2l, hall⟩
      obtain ⟨b, row, rfl, hb, rrow, erow, hi2⟩ : ∃ b row, x = .ref b ∧ H b = some (.tup (nv row)) ∧ Row n row ∧ [r, u][i]? = some row ∧ i < 2 := by
        match i, hx with
        | 0, hx => cases hx; exact ⟨p, r, rfl, h2, rr, rfl, by decide⟩
        | 1, hx => cases hx; exact ⟨q, u, rfl, h3, ru, rfl, by decide⟩
        | i + 2, hx => cases hx
      dsimp only [gName, tSeq, tAsg]
      refine compZero rfl (hg.same s2) (by rw [rg.len]; omega) fun H3 d s3 hd0 hd3 => ?_
      rw [rg.len] at hd3
      have s23 := s2.trans s3
      have hld : l ≠ d := ne_of_none h2l hd0
      refine ⟨_, rfl, pf, _, rfl, hg.same s23, (n : Int), by rw [nv_len, rg.len], by omega, by omega, ?_⟩
      rw [Int.toNat_natCast]
      refine for_range (n := n) (fun i' σ H4 => ∃ o5 bl, σ = [some (.ref a), some (.ref pf), some (.ref l), some (.ref b), some (.ref d), o5] ∧ Same H2 H4 ∧ H4 d = some (.lst (nv bl)) ∧ bl.length = n ∧ ∀ k, k < i' → bl[nx g k]? = some (nx g (nx row k)))
        ⟨_, _, rfl, s3, hd3, by simp, fun k hk => absurd hk (Nat.not_lt_zero _)⟩ ?_ ?_
      · rintro i' σ H4 hi' ⟨o5, bl, rfl, s4, h4, hbl, hfill⟩
        have s24 := s2.trans s4
        have hyn := rg.nlt hi'
        refine ⟨_, rfl, _, rfl, _, rfl, ?_⟩
        rw [show (0 : Int) + (i' : Int) = (i' : Int) from by omega]
        refine rowIx (.inr (SqT.of (s24 _ _ hb))) rrow hi' ?_
        refine rowIx (hg.same s24) rg (rrow.nlt hi') ?_
        refine ⟨_, rfl, _, rfl, _, rfl, ?_⟩
        refine rowIx (hg.same s24) rg hi' ?_
        refine ⟨d, _, _, nx g i', rfl, rfl, h4, ?_, ?_⟩
        · unfold ixN
          rw [if_pos (by omega), if_pos (by rw [nv_len, hbl]; omega)]
          simp
        refine ⟨_, bl.set (nx g i') (nx g (nx row i')), rfl, same_upd s4 hd0, by rw [upd_same, nv_set], by rw [List.length_set]; exact hbl, fun k hk => ?_⟩
        rcases Nat.lt_or_ge k i' with c | c
        · have hne : nx g i' ≠ nx g k := fun z => by
            have := rg.inj hi' (by omega) z
            omega
          rw [List.getElem?_set_ne hne]
          exact hfill k c
        · have : k = i' := by omega
          subst this
          rw [List.getElem?_set_self (by rw [hbl]; exact hyn)]
      · rintro σ H4 ⟨o5, bl, rfl, s4, h4, hbl, hfill⟩
        have e := renum_fill rg hbl hfill
        subst e
        have h4l := s4 _ _ h2l
        refine ⟨_, rfl, .inl ⟨rfl, _, SqL.of h4l⟩, _, rfl, d, _, rfl, .inl ⟨SqL.of h4, fun t ht => ?_⟩⟩
        have hlt : l ≠ t := ne_of_none h4l ht
        refine ⟨l, _, _, rfl, rfl, by rw [upd_ne hlt]; exact h4l, ?_, ?_⟩
        · rw [List.length_map]; exact small1000 (by omega)
        refine ⟨_, _, _, ts ++ [t], rfl, ?_, by rw [List.length_append, hts]; rfl, by rw [upd_same, List.map_append]; rfl, fun j t' e => ?_⟩
        · exact same_upd (same_upd (s2.trans s4) ((s2.trans s4).free ht)) hl
        · rcases Nat.lt_or_ge j ts.length with c | c
          · rw [List.getElem?_append_left c] at e
            obtain ⟨n1, row', e1, e2⟩ := hall j t' e
            refine ⟨n1, row', e1, ?_⟩
            have e3 := s4 _ _ e2
            rw [upd_ne n1, upd_ne (ne_of_none e3 ht)]
            exact e3
          · have hj : j = ts.length := by
              have := (List.getElem?_eq_some_iff.mp e).1
              rw [List.length_append] at this
              simp at this
              omega
            subst hj
            rw [List.getElem?_append_right (Nat.le_refl _)] at e
            simp at e
            subst e
            refine ⟨hlt.symm, row, by rw [hts]; exact erow, ?_⟩
            rw [upd_ne hlt.symm, upd_same]
    · rintro σ H2 ⟨o3, o4, o5, ts, rfl, s2, hts, h2l, hall⟩
      match ts, hts with
      | [t1, t2], _ =>
        obtain ⟨_, row1, e1, g1⟩ := hall 0 t1 rfl
        obtain ⟨_, row2, e2, g2⟩ := hall 1 t2 rfl
        cases e1
        cases e2
        refine ⟨_, rfl, l, _, 0, _, rfl, rfl, SqL.of h2l, atI_nat (j := 0) rfl, _, rfl, l, _, 1, _, rfl, rfl, SqL.of h2l, atI_nat (j := 1) rfl, by show 2 ≤ sizeLine; decide, fun b hb => ?_⟩
        refine k _ b (same_upd s2 (s2.free hb)) ⟨t1, t2, upd_same, ?_, ?_⟩
        · rw [upd_ne (ne_of_none g1 hb)]; exact g1
        · rw [upd_ne (ne_of_none g2 hb)]; exact g2
end
end K1
namespace L2
open PySem PySem.Spec PyProof.Rows PySem.W
section
variable {X : Cx}
/-- min of a list of sheets -/
def rMinS (K : PySem.W.Frag) (A : Around) : List V → Hp → VK → Prop := fun xs H Q => ∃ (p : Addr) (as : List Addr) (n : Nat) (rs us : Nat → List Nat), xs = [.ref p] ∧ SqL K H p (as.map V.ref) ∧ as ≠ [] ∧ A.units + 40 < cLine ∧
  (∀ i, i < as.length → Dt K H (.ref (as.getD i 0)) (sd (rs i) (us i)) ∧ (rs i).length = n ∧ (us i).length = n) ∧
  ∀ k, k < as.length → (∀ j, j < as.length → lexN false (rs j ++ us j) (rs k ++ us k) = false) → Q (.ref (as.getD k 0)) H
theorem call_minS (hc : X.calm = true) : CallR X (.builtin "min") (rMinS X.K X.A) := by
  intro pins s σ H xs us Q I rr h
  obtain ⟨p, as, n, rs, ups, rfl, hq, hne, hu, hD, q⟩ := h
  obtain ⟨u, rfl, ru⟩ := vals1 rr
  obtain rfl : u = Value.ref p := ru
  obtain ⟨its, rv, pl, hz⟩ := I.list hq
  have ei := vals_refs rv
  subst ei
  have hL := pl.isList
  have hlt : p < s.heap.objs.size := by obtain ⟨o, ho, _⟩ := id hL; exact Heap.lt_size ho
  have hpos : 0 < as.length := List.length_pos_iff.mpr hne
  have hsz : (as.map Value.ref).toArray.size = as.length := by simp
  have hval : ∀ i v, (as.map Value.ref).toArray[i]? = some v → i < as.length ∧ v = .ref (as.getD i 0) := fun i v hP => by
    have hv : as[i]?.map Value.ref = some v := by simpa using hP
    obtain ⟨a, ha, rfl⟩ := Option.map_eq_some_iff.mp hv
    obtain ⟨hi, e⟩ := List.getElem?_eq_some_iff.mp ha
    exact ⟨hi, by rw [List.getD_eq_getElem?_getD, ha]; rfl⟩
  have hrd : ∀ i, i < as.length → ∃ ps, Reads s.heap (.ref (as.getD i 0)) (sd (rs i) (ups i)) ps := fun i hi => Dt.reads I (hD i hi).1 rfl
  refine call_minH (wpAny_pyIter_list hL ⟨s.heap.objs.size, _, _, _, _, _, fun i j => lexN false (rs i ++ ups i) (rs j ++ ups j), rfl, Walks.list (A := X.A.in1) (I.ok.hd hc) s.heap.objs.size p (Nat.ne_of_lt hlt) (as.map Value.ref).toArray, ⟨⟨_, Heap.get?_push_size _ rfl, rfl, rfl⟩, hL.push _⟩, fun b hb => ?_, fun b o g => Heap.get?_push_of_some _ g, by rw [Heap.size_push]; omega, fun b hb => ?_, by rw [hsz]; exact hpos, fun i j vi vj s' Q' E' ex hi hj hQ => ?_, fun v h' tk hP ex => ?_⟩)
  · rw [Heap.size_push]
    simp at hb
    rcases hb with rfl | rfl
    · exact Nat.lt_succ_self _
    · exact Nat.lt_succ_of_lt hlt
  · simp at hb
    subst hb
    cases g : s.heap.get? s.heap.objs.size with
    | none => rfl
    | some o => exact absurd (Heap.lt_size g) (Nat.lt_irrefl _)
  · obtain ⟨li, rfl⟩ := hval i vi hi
    obtain ⟨lj, rfl⟩ := hval j vj hj
    obtain ⟨pa, ra⟩ := hrd i li
    obtain ⟨pb, rb⟩ := hrd j lj
    obtain ⟨_, a1, a2⟩ := hD i li
    obtain ⟨_, b1, b2⟩ := hD j lj
    exact cmp_lt_sd (s := s') (Reads.keeps ex ra) (Reads.keeps ex rb) (by omega) (by omega) (by show X.A.units + 1 + 20 < cLine; omega) X.prog X.w E' Q' hQ
  · obtain ⟨li, rfl⟩ := hval _ v hP
    obtain ⟨b1, b2⟩ := best_of (lt := fun i j => lexN false (rs i ++ ups i) (rs j ++ ups j)) (fun i => lexN_self false _) (fun i j k h1 h2 => lexN_tr h1 h2) ((as.map Value.ref).toArray.size - 1)
    refine ⟨.ref _, H, I.kept ex, rfl, q _ li fun j hj => b2 j (by rw [hsz]; omega)⟩
end
end L2
namespace K1
open PySem L2 Sq
theorem renum_ren (f r : List Nat) : renum f r = ren r f := by
  unfold renum ren back
  rw [List.map_map]; rfl
def spLf : Sp := fun vs H Q _ => ∃ (a : Addr) (n : Nat) (r u : List Nat), vs = [.ref a] ∧ ShAt H a r u ∧ Sheet n r u ∧ ∀ (H' : Hp) (x : Nat) (b : Addr), x < n → (∀ y, y < n → lexN false (fkey r u y) (fkey r u x) = false) → Same H H' → ShAt H' b (ren r (nbr r u x)) (ren u (nbr r u x)) → Q (.ref b) H'
section
variable {P : Program} {w : World} {K : PySem.W.Frag} {mg : Str → Option Value} {base : Heap}
abbrev n_lf : List Str := ["_law_sheet_here"]
theorem sc_lf : FnScope n_lf ["_law_sheet_here"] (defScope sLForm) := ⟨rfl, rfl, rfl, by decide +kernel, rfl, by decide +kernel, by decide +kernel⟩
theorem nd_lf : (["_law_k", "_law_sheet_here"] : List Str).Nodup := by decide +kernel
theorem ok_lf {f fr fn : Addr} {fd dr dn : FuncData} (T : Bi mg) (T_min : mg "min" = none) (F : Fn K mg "_law_form" sLForm ["_law_sheet_here"] f fd) (FR : Fn K mg "_law_renumbered" sLRenumbered ["_law_sheet_here", "_law_f"] fr dr) (GR : FnOk P w K mg base CX0 1 fr dr ["_law_sheet_here", "_law_f"] (spRenum K))
    (FN : Fn K mg "_law_numbered" sLNumbered ["_law_sheet_here", "_law_start"] fn dn) (GN : FnOk P w K mg base CX0 2 fn dn ["_law_sheet_here", "_law_start"] (spNu K)) : FnOk P w K mg base CX0 3 f fd ["_law_sheet_here"] spLf := by
  refine F.F.ok sc_lf (fun vs H Q E h => ?_) (fun cdv A outer s H vs Q E hr h => ?_)
  · obtain ⟨a, n, r, u, rfl, _⟩ := h; rfl
  · obtain ⟨a, n, r, u, rfl, hsh, hS, k⟩ := h
    have hr1 : Room 1 _ := hr.mono (by decide)
    have hr2 : Room 2 _ := hr.mono (by decide)
    refine ⟨_, (pss_one (ps_ret (pe_callB (call_minS rfl) rfl T_min boot_min (pa_cons (pe_comp (N := n_lf) (names := (defScope sLForm).names) (N' := ["_law_k", "_law_sheet_here"]) (k := 1) (pull := [0]) (te := (tCall (spRenum K) [] E0 (tCons (tVar 1) (tCons (tCall (spNu K) [] E0 (tCons (tVar 1) (tCons (tVar 0) tNil))) tNil)))) rfl ⟨by rfl, by decide +kernel, by decide +kernel, by rfl, by decide +kernel, by decide +kernel⟩ rfl rfl (pi_range1 rfl T.range (pa_cons (pe_callB call_len_seq rfl T.len PySem.boot_len (pa_cons (pe_ix ix_tup (pv 0) pe_int (fun _ _ => rfl)) pa_nil)) pa_nil)) (fun _ _ _ _ _ _ => pg_name (i := 0) nd_lf rfl (Or.inl rfl)) (fun _ _ _ _ _ _ => (pe_call GR hr1 rfl FR.m FR.F.kp FR.b .nil pass0 (pa_cons (pv 1) (pa_cons (pe_call GN hr2 rfl FN.m FN.F.kp FN.b .nil pass0 (pa_cons (pv 1) (pa_cons (pv 0) pa_nil))) pa_nil))))) pa_nil)))), ?_⟩
    have hm := hS.most
    have hn1 := hS.pos
    obtain ⟨p, q, h1, h2, h3⟩ := id hsh
    dsimp only [tRet, tCB, tCons]
    refine compRangeR (m := n) (rest := [some (.ref a)]) (fun i c H => ShAt H c (ren r (nbr r u i)) (ren u (nbr r u i))) (fun i c H H' s h => h.same s) (fun i c H d xs o hi hd h => upd_sh hd h)
      (fun R hR => ⟨_, rfl, a, _, 0, _, rfl, rfl, SqT.of h1, atI_nat (j := 0) rfl, p, _, rfl, .inr (SqT.of h2), by rw [nv_len, hS.row.len]; exact hR⟩) rfl (fun i H4 R hi s4 hR => ?_) (by omega) fun H5 d cs s5 hd0 lc hG hd => ?_
    · refine ⟨_, rfl, _, rfl, _, rfl, a, n, r, u, i, rfl, hsh.same s4, hS, hi, fun H7 l s7 hl0 rb hl => ?_⟩
      refine ⟨a, l, n, r, u, _, rfl, hsh.same (s4.trans s7), .inl (SqL.of hl), hS.row, hS.col, rb, hm, fun H8 c s8 hc => ?_⟩
      rw [renum_ren, renum_ren] at hc
      exact hR _ c (s7.trans s8) hc
    · refine ⟨d, cs, n, fun i => ren r (nbr r u i), fun i => ren u (nbr r u i), rfl, SqL.of hd, fun z => ?_, minRoom hr, fun i hi => ?_, fun x hx hbest => ?_⟩
      · rw [z] at lc; simp at lc; omega
      · have rb := nbr_row hS (show i < n by omega)
        exact ⟨(hG i (by omega)).dt, (ren_row hS.row rb).len, (ren_row hS.col rb).len⟩
      · exact k H5 x _ (by omega) (fun y hy => hbest y (by omega)) s5 (hG x (by omega))
end
end K1
namespace L2
open PySem PySem.Spec PyProof.Rows PySem.W
section
variable {X : Cx}
/-- a thing not among the things of a list, as data -/
def rNotInD (K : PySem.W.Frag) (A : Around) : R2 := fun x y H Q => ∃ (p : Addr) (xs : List V) (d : PyData) (ds : List PyData), y = .ref p ∧ SqL K H p xs ∧ Dt K H x d ∧ DtAll K H xs ds ∧ d.canLay0 = true ∧ PyData.canLayAll0 ds = true ∧ d.depth ≤ 10 ∧ A.units + 20 < cLine ∧ Q (.bl (!(ds.any fun e => PyData.eqv e d))) H
theorem op_notInD : OpR X (compareOp .NotIn) (rNotInD X.K X.A) := by
  classical
  intro pins s σ H x y v u Q I rx ry h
  obtain ⟨p, xs, d, ds, rfl, hq, hd, ha, c1, c2, dp, hu, q⟩ := h
  obtain rfl : u = Value.ref p := ry
  obtain ⟨its, rv, pl, hz⟩ := I.list hq
  obtain ⟨as, ra⟩ := Dt.reads I hd rx
  obtain ⟨bs, rb⟩ := DtAll.reads I ha rv
  have hlen := readsAll_len rb
  let e : Value → Bool := fun y => decide (∃ d' cs, Reads s.heap y d' cs ∧ PyData.eqv d' d = true)
  have he : ∀ j (h1 : j < its.length) d', ds[j]? = some d' → e its[j] = PyData.eqv d' d := fun j h1 d' g => by
    obtain ⟨d2, cs, g2, r2⟩ := readsAll_nth rb j h1
    rw [g] at g2; cases g2
    show decide _ = _
    cases hh : PyData.eqv d' d with
    | true => exact decide_eq_true ⟨d', cs, r2, hh⟩
    | false =>
      refine decide_eq_false fun ⟨d3, cs3, r3, e3⟩ => ?_
      rw [← SeqAt.Reads.unique d' d3 _ _ _ (layAll_mem c2 g) r2 r3, hh] at e3
      cases e3
  refine SeqAt.notIn_listAt e pl.isList (fun y hy => ?_) ⟨.bl _, H, I, ?_, q⟩
  · obtain ⟨j, hj, ej⟩ := List.mem_iff_getElem.mp (by simpa using hy : y ∈ its)
    obtain ⟨d2, cs, g2, r2⟩ := readsAll_nth rb j hj
    rw [← ej, he j hj d2 g2]
    exact SeqAt.eqAt_reads d2 d X.A.in1 s _ _ _ _ r2 ra (layAll_mem c2 g2) c1 (by show X.A.units + 1 + min d2.depth d.depth < cLine; omega)
  · show Value.bool _ = Value.bool _
    congr 1
    congr 1
    rw [Bool.eq_iff_iff, List.any_eq_true, ← Array.any_toList, List.any_eq_true]
    constructor
    · rintro ⟨y, hy, e1⟩
      obtain ⟨j, hj, ej⟩ := List.mem_iff_getElem.mp (by simpa using hy : y ∈ its)
      obtain ⟨d2, cs, g2, r2⟩ := readsAll_nth rb j hj
      rw [← ej, he j hj d2 g2] at e1
      exact ⟨d2, List.mem_of_getElem? g2, e1⟩
    · rintro ⟨d2, hd2, e1⟩
      obtain ⟨j, hj, ej⟩ := List.mem_iff_getElem.mp hd2
      have hj' : j < its.length := by rw [hlen]; exact hj
      refine ⟨its[j], by simp, ?_⟩
      rw [he j hj' d2 (by rw [List.getElem?_eq_getElem hj, ej])]
      exact e1
end
end L2
namespace L2
open PySem PySem.Spec PyProof.Rows
theorem count_at {j : Nat} : ∀ {l : List Nat}, l.Pairwise (· < ·) → ∀ (i : Nat) (hi : i < l.length), l[i] < j ↔ i < l.countP (· < j)
  | [], _, i, hi => absurd hi (by simp)
  | a :: t, h, i, hi => by
    obtain ⟨h1, h2⟩ := List.pairwise_cons.mp h
    by_cases c : a < j
    · rw [List.countP_cons_of_pos (by simpa using c)]
      cases i with
      | zero => simp [c]
      | succ i =>
        have := count_at (j := j) h2 i (by simpa using hi)
        simp only [List.getElem_cons_succ]
        omega
    · rw [List.countP_cons_of_neg (by simpa using c)]
      have z : t.countP (· < j) = 0 := by
        rw [List.countP_eq_zero]
        intro x hx
        have := h1 x hx
        simp; omega
      rw [z]
      cases i with
      | zero => simp only [List.getElem_cons_zero]; omega
      | succ i =>
        simp only [List.getElem_cons_succ]
        have := h1 _ (List.getElem_mem (by simpa using hi : i < t.length))
        omega
theorem below_go {xs : Array Nat} (h : xs.toList.Pairwise (· < ·)) (j : Nat) : ∀ (fuel lo hi : Nat), hi ≤ xs.size → hi - lo ≤ fuel → lo ≤ xs.toList.countP (· < j) → xs.toList.countP (· < j) ≤ hi → SetTable.below.go xs j fuel lo hi = xs.toList.countP (· < j)
  | 0, lo, hi, _, hf, h1, h2 => by unfold SetTable.below.go; omega
  | fuel + 1, lo, hi, hs, hf, h1, h2 => by
    unfold SetTable.below.go
    by_cases c : lo < hi
    · rw [if_pos c]
      dsimp only
      have hm : (lo + hi) / 2 < xs.size := by omega
      have e : xs.getD ((lo + hi) / 2) j = xs.toList[(lo + hi) / 2]'(by simpa using hm) := by
        rw [Array.getD_eq_getD_getElem?, Array.getElem?_eq_getElem hm]; simp
      rw [e]
      have k := count_at (j := j) h ((lo + hi) / 2) (by simpa using hm)
      by_cases d : xs.toList[(lo + hi) / 2]'(by simpa using hm) < j
      · rw [if_pos d]
        exact below_go h j fuel _ _ hs (by omega) (by have := k.mp d; omega) h2
      · rw [if_neg d]
        exact below_go h j fuel _ _ (by omega) (by omega) h1 (by have := fun z => d (k.mpr z); omega)
    · rw [if_neg c]; omega
theorem below_is {xs : Array Nat} (h : xs.toList.Pairwise (· < ·)) (j : Nat) : SetTable.below xs j = xs.toList.countP (· < j) :=
  below_go h j _ _ _ (Nat.le_refl _) (by omega) (Nat.zero_le _) (by simpa using List.countP_le_length (p := fun x => decide (x < j)) (l := xs.toList))
structure TOk (t : SetTable) (b : Bool) : Prop where
  ris : t.place.toList.Pairwise (· < ·)
  dum : t.dummies = #[]
  led : t.led = b
theorem insert_list {α : Type} (xs : Array α) (p : Nat) (x : α) : (SetTable.insertAt xs p x).toList = xs.toList.take p ++ x :: xs.toList.drop p := by
  unfold SetTable.insertAt
  simp [Array.toList_append, Array.toList_push, Array.toList_extract, List.extract_eq_take_drop]
  exact List.take_of_length_le (by simp)
theorem has_nil (j : Nat) : SetTable.has #[] j = false := by unfold SetTable.has; simp
theorem TOk.put {t : SetTable} {b : Bool} (h : TOk t b) {j : Nat} (he : t.slot j = .empty) : TOk (t.put j).1 b := by
  have hp : t.place[SetTable.below t.place j]? ≠ some j := fun z => by
    unfold SetTable.slot at he
    dsimp only at he
    rw [if_pos (by simpa using z)] at he
    cases he
  rw [below_is h.ris] at hp
  generalize hc : t.place.toList.countP (· < j) = c at hp
  refine ⟨?_, ?_, h.led⟩
  · show (SetTable.insertAt t.place (SetTable.below t.place j) j).toList.Pairwise (· < ·)
    rw [insert_list, below_is h.ris, hc]
    have key : ∀ i (hi : i < t.place.toList.length), t.place.toList[i] < j ↔ i < c := fun i hi => by rw [← hc]; exact count_at h.ris i hi
    refine List.pairwise_append.mpr ⟨h.ris.sublist (List.take_sublist _ _), List.pairwise_cons.mpr ⟨fun y hy => ?_, h.ris.sublist (List.drop_sublist _ _)⟩, fun x hx y hy => ?_⟩
    · obtain ⟨i, hi, e⟩ := List.mem_iff_getElem.mp hy
      rw [List.getElem_drop] at e
      have hi2 : c + i < t.place.toList.length := by rw [List.length_drop] at hi; omega
      have h1 := fun z => (key (c + i) hi2).mp z
      rw [e] at h1
      have h2 : y ≠ j := fun z => by
        by_cases i0 : i = 0
        · subst i0
          apply hp
          rw [← z, ← e]
          simp [hi2]
        · have := List.pairwise_iff_getElem.mp h.ris c (c + i) (by omega) hi2 (by omega)
          have q : ¬ t.place.toList[c]'(by omega) < j := fun z' => by have := (key c (by omega)).mp z'; omega
          omega
      omega
    · have hxj : x < j := by
        obtain ⟨i, hi, e⟩ := List.mem_iff_getElem.mp hx
        rw [List.length_take] at hi
        rw [List.getElem_take] at e
        rw [← e]; exact (key i (by omega)).mpr (by omega)
      rcases List.mem_cons.mp hy with e | e
      · omega
      · obtain ⟨i, hi, e⟩ := List.mem_iff_getElem.mp e
        rw [List.getElem_drop] at e
        have hi2 : c + i < t.place.toList.length := by rw [List.length_drop] at hi; omega
        have h1 := fun z => (key (c + i) hi2).mp z
        rw [e] at h1
        omega
  · show (if SetTable.has t.dummies j then _ else t.dummies) = #[]
    rw [h.dum, has_nil, if_neg (by decide)]
theorem map_sub {β : Type} (g : Nat → Option β) : ∀ l : List Nat, List.Sublist ((l.filterMap fun j => (g j).map (j, ·)).map (·.1)) l
  | [] => List.Sublist.refl _
  | a :: l => by
    rw [List.filterMap_cons]
    cases g a with
    | none => exact (map_sub g l).cons a
    | some y => exact (map_sub g l).cons₂ a
end L2
namespace L2
open PySem PySem.Spec PyProof.Rows
section
variable {prog : Program} {w : World} {A : Around} {E : Value → Shared → Prop} {s : Shared}
end
end L2
namespace L2
open PySem PySem.Spec PyProof.Rows
section
variable {prog : Program} {w : World} {A : Around} {R : Result → Shared → Prop} {I : Addr} {fp wr : List Addr} {G : Array GenState → Array GenState → Prop} {n : Nat} {P : Nat → Value → Prop} {St : Nat → Shared → Prop}
end
section
variable {prog : Program} {w : World} {A : Around} {E : Value → Shared → Prop} {s : Shared}
theorem new_ok (a : Value) {Q1 : Value → Shared → Prop} (h : Q1 (.ref s.heap.objs.size) { s with heap := s.heap.push { cls := .type "set", dict := none, data := .set #[] 0 (.fresh 0 0 (!w.params.followText "set-order")) } }) :
    codeAny (model prog w) A (.call (.builtin "set.__new__") ⟨[.type "set", a], []⟩) (wants Q1 E) s := by
  refine codeAny_of_tree (by
    show wpAny _ A.in1 (do checkBuiltinCall "set.__new__" ⟨[.type "set", a], []⟩; again (.builtin "set.__new__" ⟨[.type "set", a], []⟩)) _ _ s
    refine wpAny_bind (wpAny_of_eq (PySem.F.newCall_set_1 a) (wpAny_pure ⟨plainId_quiet PySem.F.plain_set_new _, codeAny_builtin PySem.F.entry_set_new ?_⟩))
    rw [Around.under_plainId PySem.F.plain_set_new _]
    unfold Builtin.«set.__new__» Builtin.Frozenset.newClass
    have hsub := sub_set_self
    obtain ⟨hp, g, d, tk, os⟩ := s
    dsimp only at h ⊢
    wp_walk
    refine wpAny_askSetting (wpAny_pure ?_)
    dsimp only
    simp only [newObj]
    exact wpAny_bind (wpAny_alloc (wpAny_pure (wpAny_pure h))))
end
end L2
namespace L2
open PySem PySem.Spec PyProof.Rows
namespace SF
end SF
section
variable {prog : Program} {w : World} {A : Around} {E : Value → Shared → Prop} {s : Shared} {it a : Addr} {es : Array (Int × Value)} {ep : Nat} {t : SetTable}
end
end L2
namespace L2
open PySem PySem.Spec PyProof.Rows
section
variable {prog : Program} {w : World} {A : Around} {E : Value → Shared → Prop} {s : Shared} {it a : Addr} {es : Array (Int × Value)} {ep : Nat} {t : SetTable}
end
end L2
namespace L2
open PySem PySem.Spec PyProof.Rows
section
variable {prog : Program} {w : World} {A : Around} {E : Value → Shared → Prop} {s : Shared} {it a : Addr} {es : Array (Int × Value)} {ep : Nat} {t : SetTable}
end
end L2
namespace L2
open PySem PySem.Spec PyProof.Rows
section
variable {prog : Program} {w : World} {A : Around} {E : Value → Shared → Prop} {s : Shared} {a : Addr} {l : List Int} {b : Bool}
end
section
variable {X : Cx}
end
end L2
namespace L2
open PySem PySem.Spec PyProof.Rows
end L2
namespace L2
open PySem PySem.Spec PyProof.Rows
def lp (mask : Nat) : Nat → Nat × Nat → Nat × Nat
  | 0, q => q
  | m + 1, q => lp mask m (SetTable.leap mask q.1 q.2)
theorem lp_add (mask : Nat) : ∀ (a b : Nat) (q : Nat × Nat), lp mask (a + b) q = lp mask b (lp mask a q)
  | 0, b, q => by rw [Nat.zero_add]; rfl
  | a + 1, b, q => by rw [show a + 1 + b = (a + b) + 1 by omega]; exact lp_add mask a b _
theorem lp_snd (mask : Nat) : ∀ (m : Nat) (q : Nat × Nat), (lp mask m q).2 = q.2 / 32 ^ m
  | 0, q => by show q.2 = q.2 / 1; rw [Nat.div_one]
  | m + 1, q => by
    show (lp mask m (SetTable.leap mask q.1 q.2)).2 = _
    rw [lp_snd mask m]
    show q.2 / 32 / 32 ^ m = _
    rw [Nat.div_div_eq_div_mul, Nat.pow_succ, Nat.mul_comm]
theorem lp_le {mask : Nat} : ∀ (m : Nat) (q : Nat × Nat), q.1 ≤ mask → (lp mask m q).1 ≤ mask
  | 0, q, h => h
  | m + 1, q, h => lp_le m _ (by show (q.1 * 5 + 1 + q.2 / 32) % (mask + 1) ≤ mask; exact Nat.le_of_lt_succ (Nat.mod_lt _ (Nat.succ_pos _)))
def it5 (mask : Nat) (i : Nat) : Nat := (i * 5 + 1) % (mask + 1)
def hd5 (mask : Nat) (l : List Nat) : Nat := match l with
  | [] => 0
  | a :: _ => it5 mask a
def or5 (mask : Nat) : Nat → List Nat → List Nat
  | 0, l => l
  | m + 1, l => or5 mask m (hd5 mask l :: l)
def ok5 (mask : Nat) : Bool := (List.range (mask + 1)).all fun e => (or5 mask (mask + 1) []).elem e
theorem ok5_7 : ok5 7 = true := by decide +kernel
theorem ok5_31 : ok5 31 = true := by decide +kernel
theorem ok5_127 : ok5 127 = true := by decide +kernel
theorem ok5_511 : ok5 511 = true := by decide +kernel
def Msk (m : Nat) : Prop := m = 7 ∨ m = 31 ∨ m = 127 ∨ m = 511
theorem Msk.ok {m : Nat} (h : Msk m) : ok5 m = true := by
  rcases h with rfl | rfl | rfl | rfl
  · exact ok5_7
  · exact ok5_31
  · exact ok5_127
  · exact ok5_511
def i5 (mask : Nat) : Nat → Nat
  | 0 => 0
  | m + 1 => it5 mask (i5 mask m)
theorem or5_mem {mask e : Nat} : ∀ (m a : Nat) (l : List Nat), (∀ x ∈ l, ∃ k, k < a ∧ i5 mask k = x) → (a = 0 → l = []) → (∀ h t, l = h :: t → 0 < a ∧ h = i5 mask (a - 1)) → (0 < a → l ≠ []) → e ∈ or5 mask m l → ∃ k, k < a + m ∧ i5 mask k = e
  | 0, a, l, h1, _, _, _, he => h1 e he
  | m + 1, a, l, h1, h2, h3, h4, he => by
    have hn : hd5 mask l = i5 mask a := by
      cases l with
      | nil =>
        cases a with
        | zero => rfl
        | succ a => exact absurd rfl (h4 (Nat.succ_pos _))
      | cons x t =>
        obtain ⟨q1, q2⟩ := h3 x t rfl
        show it5 mask x = _
        rw [q2, show a = (a - 1) + 1 by omega]; rfl
    have := or5_mem (e := e) m (a + 1) (i5 mask a :: l) (fun x hx => by
      rcases List.mem_cons.mp hx with rfl | hx
      · exact ⟨a, by omega, rfl⟩
      · obtain ⟨k, hk, ek⟩ := h1 x hx; exact ⟨k, by omega, ek⟩) (fun z => by omega) (fun x t z => by
      injection z with z1 z2
      exact ⟨by omega, by rw [← z1]; rfl⟩) (fun _ => by simp) (by
      have he : e ∈ or5 mask m (hd5 mask l :: l) := he
      rw [hn] at he; exact he)
    obtain ⟨k, hk, ek⟩ := this
    exact ⟨k, by omega, ek⟩
theorem i5_all {mask e : Nat} (h : ok5 mask = true) (he : e ≤ mask) : ∃ k, k ≤ mask ∧ i5 mask k = e := by
  have := List.all_eq_true.mp h e (List.mem_range.mpr (by omega))
  obtain ⟨k, hk, ek⟩ := or5_mem (mask := mask) (e := e) (mask + 1) 0 [] (fun x hx => nomatch hx) (fun _ => rfl) (fun x t z => nomatch z) (fun z => by omega) (by simpa using this)
  exact ⟨k, by omega, ek⟩
/-- it comes round -/
theorem Msk.round {m : Nat} (h : Msk m) : i5 m (m + 1) = 0 := by
  rcases h with rfl | rfl | rfl | rfl <;> decide +kernel
theorem i5_add (mask : Nat) : ∀ (b a : Nat), (lp mask b (i5 mask a, 0)).1 = i5 mask (a + b)
  | 0, a => rfl
  | b + 1, a => by
    have e : SetTable.leap mask (i5 mask a) 0 = (i5 mask (a + 1), 0) := rfl
    show (lp mask b (SetTable.leap mask (i5 mask a) 0)).1 = _
    rw [e, i5_add mask b (a + 1), show a + 1 + b = a + (b + 1) by omega]
theorem i5_per {m : Nat} (h : Msk m) : ∀ k, i5 m (k + (m + 1)) = i5 m k
  | 0 => by rw [Nat.zero_add]; exact h.round
  | k + 1 => by
    rw [show k + 1 + (m + 1) = (k + (m + 1)) + 1 by omega]
    show it5 m (i5 m (k + (m + 1))) = it5 m (i5 m k)
    rw [i5_per h k]
/-- from anywhere to any place -/
theorem lp_all {mask : Nat} (h : Msk mask) {i p e : Nat} (hi : i ≤ mask) (hp : p < 2 ^ 64) (he : e ≤ mask) : ∃ m, m ≤ mask + 14 ∧ (lp mask m (i, p)).1 = e := by
  have h13 : (lp mask 13 (i, p)).2 = 0 := by
    rw [lp_snd]
    exact Nat.div_eq_of_lt (Nat.lt_trans hp (by decide))
  have hl : (lp mask 13 (i, p)).1 ≤ mask := lp_le 13 (i, p) hi
  obtain ⟨a, ha, ea⟩ := i5_all h.ok hl
  obtain ⟨b, hb, eb⟩ := i5_all h.ok he
  have eq : lp mask 13 (i, p) = (i5 mask a, 0) := Prod.ext ea.symm h13
  by_cases c : a ≤ b
  · refine ⟨13 + (b - a), by omega, ?_⟩
    rw [lp_add, eq, i5_add, show a + (b - a) = b by omega]
    exact eb
  · refine ⟨13 + (b + (mask + 1) - a), by omega, ?_⟩
    rw [lp_add, eq, i5_add, show a + (b + (mask + 1) - a) = b + (mask + 1) by omega, i5_per h]
    exact eb
def adn (t : SetTable) : Nat → SetTable.Probe → SetTable.Probe
  | 0, p => p
  | d + 1, p => adn t d (t.advance p)
theorem adn_add (t : SetTable) : ∀ (a b : Nat) (p : SetTable.Probe), adn t (a + b) p = adn t b (adn t a p)
  | 0, b, p => by rw [Nat.zero_add]; rfl
  | a + 1, b, p => by rw [show a + 1 + b = (a + b) + 1 by omega]; exact adn_add t a b _
def pst (mask : Nat) (q : Nat × Nat) : SetTable.Probe := { j := q.1, more := SetTable.runEnd mask q.1 - q.1, i := q.1, perturb := q.2, dummy := none }
theorem run_le {mask i : Nat} (h : i ≤ mask) : i ≤ SetTable.runEnd mask i ∧ SetTable.runEnd mask i ≤ mask ∧ SetTable.runEnd mask i - i ≤ 9 := by
  unfold SetTable.runEnd; split <;> omega
theorem adv_more (t : SetTable) : ∀ (k : Nat) (p : SetTable.Probe), k ≤ p.more → adn t k p = { p with j := p.j + k, more := p.more - k }
  | 0, p, _ => by cases p; rfl
  | k + 1, p, h => by
    show adn t k (t.advance p) = _
    have e : t.advance p = { p with j := p.j + 1, more := p.more - 1 } := by unfold SetTable.advance; rw [if_pos (by omega)]
    rw [e, adv_more t k _ (by show k ≤ p.more - 1; omega)]
    show ({ p with j := p.j + 1 + k, more := p.more - 1 - k } : SetTable.Probe) = { p with j := p.j + (k + 1), more := p.more - (k + 1) }
    rw [show p.j + 1 + k = p.j + (k + 1) by omega, show p.more - 1 - k = p.more - (k + 1) by omega]
theorem adv_leap (t : SetTable) {q : Nat × Nat} (h : q.1 ≤ t.mask) : ∃ k, k ≤ 10 ∧ adn t k (pst t.mask q) = pst t.mask (SetTable.leap t.mask q.1 q.2) := by
  obtain ⟨r1, r2, r3⟩ := run_le h
  refine ⟨(SetTable.runEnd t.mask q.1 - q.1) + 1, by omega, ?_⟩
  rw [adn_add, adv_more t (SetTable.runEnd t.mask q.1 - q.1) (pst t.mask q) (Nat.le_refl _)]
  show t.advance { pst t.mask q with j := q.1 + (SetTable.runEnd t.mask q.1 - q.1), more := (SetTable.runEnd t.mask q.1 - q.1) - (SetTable.runEnd t.mask q.1 - q.1) } = _
  unfold SetTable.advance
  rw [if_neg (by show ¬ (SetTable.runEnd t.mask q.1 - q.1) - (SetTable.runEnd t.mask q.1 - q.1) > 0; omega)]
  rfl
theorem adv_lps (t : SetTable) : ∀ (m : Nat) {q : Nat × Nat}, q.1 ≤ t.mask → ∃ k, k ≤ 10 * m ∧ adn t k (pst t.mask q) = pst t.mask (lp t.mask m q)
  | 0, q, h => ⟨0, by omega, rfl⟩
  | m + 1, q, h => by
    obtain ⟨k1, h1, e1⟩ := adv_leap t h
    obtain ⟨k2, h2, e2⟩ := adv_lps t m (q := SetTable.leap t.mask q.1 q.2) (lp_le 1 q h)
    exact ⟨k1 + k2, by omega, by rw [adn_add, e1, e2]; rfl⟩
theorem bits_lt (h : Int) : SetTable.bits h < 2 ^ 64 := by
  unfold SetTable.bits
  have h1 := Int.emod_lt_of_pos h (show (0 : Int) < 2 ^ 64 by decide)
  have h2 := Int.emod_nonneg h (show (2 ^ 64 : Int) ≠ 0 by decide)
  omega
/-- an empty place is come to -/
theorem probe_some {t : SetTable} (hm : Msk t.mask) {e : Nat} (he : e ≤ t.mask) (hs : t.slot e = .empty) (h : Int) : ∃ d, d ≤ 10 * (t.mask + 14) ∧ t.slot (adn t d (t.probeStart h)).j = .empty := by
  have hi : SetTable.bits h % (t.mask + 1) ≤ t.mask := Nat.le_of_lt_succ (Nat.mod_lt _ (Nat.succ_pos _))
  obtain ⟨m, h1, h2⟩ := lp_all hm (i := SetTable.bits h % (t.mask + 1)) (p := SetTable.bits h) hi (bits_lt h) he
  obtain ⟨k, k1, k2⟩ := adv_lps t m (q := (SetTable.bits h % (t.mask + 1), SetTable.bits h)) hi
  refine ⟨k, by omega, ?_⟩
  have : t.probeStart h = pst t.mask (SetTable.bits h % (t.mask + 1), SetTable.bits h) := rfl
  rw [this, k2]
  show t.slot (lp t.mask m _).1 = _
  rw [h2]; exact hs
/-- a probe stands within the table -/
def Wp (t : SetTable) (p : SetTable.Probe) : Prop := p.dummy = none ∧ p.j + p.more ≤ t.mask
theorem Wp.adv {t : SetTable} {p : SetTable.Probe} (h : Wp t p) : Wp t (t.advance p) := by
  unfold SetTable.advance
  split
  · refine ⟨h.1, ?_⟩
    have := h.2
    show p.j + 1 + (p.more - 1) ≤ t.mask
    omega
  · refine ⟨h.1, ?_⟩
    have hi : (p.i * 5 + 1 + p.perturb / 32) % (t.mask + 1) ≤ t.mask := Nat.le_of_lt_succ (Nat.mod_lt _ (Nat.succ_pos _))
    obtain ⟨r1, r2, r3⟩ := run_le hi
    show (p.i * 5 + 1 + p.perturb / 32) % (t.mask + 1) + (SetTable.runEnd t.mask ((p.i * 5 + 1 + p.perturb / 32) % (t.mask + 1)) - (p.i * 5 + 1 + p.perturb / 32) % (t.mask + 1)) ≤ t.mask
    omega
theorem Wp.start (t : SetTable) (h : Int) : Wp t (t.probeStart h) := by
  have hi : SetTable.bits h % (t.mask + 1) ≤ t.mask := Nat.le_of_lt_succ (Nat.mod_lt _ (Nat.succ_pos _))
  obtain ⟨r1, r2, r3⟩ := run_le hi
  refine ⟨rfl, ?_⟩
  show SetTable.bits h % (t.mask + 1) + (SetTable.runEnd t.mask (SetTable.bits h % (t.mask + 1)) - SetTable.bits h % (t.mask + 1)) ≤ t.mask
  omega
theorem probe_go {t : SetTable} (hd : t.dummies = #[]) {f : Nat → Int} {x : Int} : ∀ (d fuel : Nat) (p : SetTable.Probe), d < fuel → Wp t p → t.slot (adn t d p).j = .empty →
    (∃ j, SetTable.probe.go t f x fuel p = some (.empty j none) ∧ t.slot j = .empty ∧ j ≤ t.mask) ∨ (∃ j i nxt d', d' < d ∧ SetTable.probe.go t f x fuel p = some (.candidate j i nxt) ∧ Wp t nxt ∧ t.slot j = .live i ∧ t.slot (adn t d' nxt).j = .empty)
  | d, 0, p, h, _, _ => absurd h (by omega)
  | d, fuel + 1, p, h, hw, he => by
    unfold SetTable.probe.go
    cases hs : t.slot p.j with
    | empty =>
      refine .inl ⟨p.j, ?_, hs, by have := hw.2; omega⟩
      dsimp only
      rw [hw.1]
    | dummy =>
      exfalso
      unfold SetTable.slot at hs
      dsimp only at hs
      split at hs
      · cases hs
      · rw [hd, has_nil] at hs
        cases hs
    | live i =>
      cases d with
      | zero =>
        have he : t.slot p.j = .empty := he
        rw [hs] at he; cases he
      | succ d =>
        dsimp only
        by_cases c : (f i == x) = true
        · rw [if_pos c]
          exact .inr ⟨p.j, i, _, d, Nat.lt_succ_self _, rfl, hw.adv, hs, he⟩
        · rw [if_neg c]
          rcases probe_go hd d fuel (t.advance p) (by omega) hw.adv he with q | ⟨j, i, nxt, d', h1, h2⟩
          · exact .inl q
          · exact .inr ⟨j, i, nxt, d', by omega, h2⟩
end L2
namespace L2
open PySem PySem.Spec PyProof.Rows
section
variable {P : Program} {w : World} {K : Type} [DecidableEq K] {knd : KeyKind P w K} {A : Around} {E : Value → Shared → Prop} {s : Shared}
theorem acs_v (m : Nat) {v : Value} (h : carriedByValue v = true) : ofAClassStatement m v = pure false := by
  cases v with
  | ref a => simp [carriedByValue] at h
  | _ => cases m <;> (unfold ofAClassStatement; rfl)
theorem acs_1 {ks : List K} {a : Addr} {m : Nat} {Q : Bool → Shared → Prop} (hk : IsTupleKey knd s.heap ks a) (h : Q false s) : wpAny (model P w) A (ofAClassStatement (m + 1) (.ref a)) Q E s := by
  have hT := hk.typeIs
  obtain ⟨o, items, n, ho, _, hd, hi⟩ := hk
  unfold ofAClassStatement
  refine wpAny_bind (wpAny_typeOf hT ?_)
  dsimp only
  refine wpAny_bind ?_
  refine wpAny_pure ?_
  simp only [Bool.not_true, Bool.false_eq_true, if_false]
  refine wpAny_bind (wpAny_seqItems ho hd ?_)
  dsimp only
  refine wpAny_bind ?_
  rw [← Array.forIn_toList]
  refine wpAny_forIn_list _ (fun rest r s' => r.1 = none ∧ s' = s ∧ ∀ v ∈ rest, carriedByValue v = true) _ ?_ ?_ _ _ ⟨rfl, rfl, hi.byValue⟩
  · rintro v rest r s' ⟨hr, rfl, hall⟩
    rw [acs_v _ (hall v List.mem_cons_self)]
    refine wpAny_bind (wpAny_pure ?_)
    simp only [Bool.false_eq_true, if_false]
    exact wpAny_pure ⟨rfl, rfl, fun u hu' => hall u (List.mem_cons_of_mem _ hu')⟩
  · rintro ⟨r1, r2⟩ s' ⟨hr, rfl, _⟩
    simp only at hr
    subst hr
    exact wpAny_pure h
theorem acs_2 {ks : List (List K)} {a : Addr} {Q : Bool → Shared → Prop} (hk : Is2 knd s.heap ks a) (h : Q false s) : wpAny (model P w) A (ofAClassStatement 8 (.ref a)) Q E s := by
  have hT := hk.ty
  obtain ⟨o, items, n, ho, _, hd, hi⟩ := hk
  unfold ofAClassStatement
  refine wpAny_bind (wpAny_typeOf hT ?_)
  dsimp only
  refine wpAny_bind ?_
  refine wpAny_pure ?_
  simp only [Bool.not_true, Bool.false_eq_true, if_false]
  refine wpAny_bind (wpAny_seqItems ho hd ?_)
  dsimp only
  refine wpAny_bind ?_
  rw [← Array.forIn_toList]
  refine wpAny_forIn_list _ (fun rest r s' => r.1 = none ∧ s' = s ∧ ∃ ks, Its2 knd s.heap ks rest) _ ?_ ?_ _ _ ⟨rfl, rfl, ks, hi⟩
  · rintro v rest r s' ⟨hr, rfl, ks', hl⟩
    cases hl with
    | cons h1 hl' =>
      refine wpAny_bind (acs_1 (m := 6) h1 ?_)
      simp only [Bool.false_eq_true, if_false]
      exact wpAny_pure ⟨rfl, rfl, _, hl'⟩
  · rintro ⟨r1, r2⟩ s' ⟨hr, rfl, _⟩
    simp only at hr
    subst hr
    exact wpAny_pure h
theorem hbv_v (m : Nat) {v : Value} (h : carriedByValue v = true) : ∃ c, hashByValue m v = pure c := by
  cases v with
  | ref a => simp [carriedByValue] at h
  | _ => cases m <;> exact ⟨_, by unfold hashByValue; rfl⟩
theorem hbv_1 {ks : List K} {a : Addr} {m : Nat} {Q : Bool → Shared → Prop} (hk : IsTupleKey knd s.heap ks a) (h : ∀ c, Q c s) : wpAny (model P w) A (hashByValue (m + 1) (.ref a)) Q E s := by
  have hT := hk.typeIs
  obtain ⟨o, items, n, ho, _, hd, hi⟩ := hk
  unfold hashByValue
  refine wpAny_bind (wpAny_specialOf hT PySem.F.slot_tuple_hash.lookup ?_)
  dsimp only
  refine wpAny_bind (wpAny_seqItems ho hd ?_)
  dsimp only [Option.getD]
  refine wpAny_bind ?_
  rw [← Array.forIn_toList]
  refine wpAny_forIn_list _ (fun rest r s' => r.1 = none ∧ s' = s ∧ ∀ v ∈ rest, carriedByValue v = true) _ ?_ ?_ _ _ ⟨rfl, rfl, hi.byValue⟩
  · rintro v rest r s' ⟨hr, rfl, hall⟩
    obtain ⟨c, e⟩ := hbv_v m (hall v List.mem_cons_self)
    rw [e]
    refine wpAny_bind (wpAny_pure ?_)
    cases c with
    | true =>
      simp only [Bool.not_true, Bool.false_eq_true, if_false]
      exact wpAny_pure ⟨rfl, rfl, fun u hu' => hall u (List.mem_cons_of_mem _ hu')⟩
    | false =>
      simp only [Bool.not_false, if_true]
      first | exact wpAny_pure (wpAny_pure (h _)) | exact wpAny_bind (wpAny_pure (wpAny_pure (wpAny_pure (h _))))
  · rintro ⟨r1, r2⟩ s' ⟨hr, rfl, _⟩
    simp only at hr
    subst hr
    exact wpAny_pure (h _)
theorem hbv_2 {ks : List (List K)} {a : Addr} {Q : Bool → Shared → Prop} (hk : Is2 knd s.heap ks a) (h : ∀ c, Q c s) : wpAny (model P w) A (hashByValue 8 (.ref a)) Q E s := by
  have hT := hk.ty
  obtain ⟨o, items, n, ho, _, hd, hi⟩ := hk
  unfold hashByValue
  refine wpAny_bind (wpAny_specialOf hT PySem.F.slot_tuple_hash.lookup ?_)
  dsimp only
  refine wpAny_bind (wpAny_seqItems ho hd ?_)
  dsimp only [Option.getD]
  refine wpAny_bind ?_
  rw [← Array.forIn_toList]
  refine wpAny_forIn_list _ (fun rest r s' => r.1 = none ∧ s' = s ∧ ∃ ks, Its2 knd s.heap ks rest) _ ?_ ?_ _ _ ⟨rfl, rfl, ks, hi⟩
  · rintro v rest r s' ⟨hr, rfl, ks', hl⟩
    cases hl with
    | cons h1 hl' =>
      refine wpAny_bind (hbv_1 (m := 6) h1 fun c => ?_)
      cases c with
      | true =>
        simp only [Bool.not_true, Bool.false_eq_true, if_false]
        exact wpAny_pure ⟨rfl, rfl, _, hl'⟩
      | false =>
        simp only [Bool.not_false, if_true]
        first | exact wpAny_pure (wpAny_pure (h _)) | exact wpAny_bind (wpAny_pure (wpAny_pure (wpAny_pure (h _))))
  · rintro ⟨r1, r2⟩ s' ⟨hr, rfl, _⟩
    simp only at hr
    subst hr
    exact wpAny_pure (h _)
/-- nobody sees the search -/
theorem seen_not {b : Addr} {k : List (List K)} (hk : Is2 knd s.heap k b) : ∀ (ys : List Value), (∀ y ∈ ys, ∃ c k', y = .ref c ∧ Is2 knd s.heap k' c) → ∀ {Q : Bool → Shared → Prop}, Q false s → wpAny (model P w) A (searchCouldBeSeen (.ref b) ys) Q E s := by
  intro ys hys Q h
  unfold searchCouldBeSeen
  refine wpAny_bind ?_
  refine wpAny_forIn_list _ (fun rest r s' => r.1 = none ∧ s' = s ∧ ∀ y ∈ rest, ∃ c k', y = .ref c ∧ Is2 knd s.heap k' c) _ ?_ ?_ _ _ ⟨rfl, rfl, hys⟩
  · rintro v rest r s' ⟨hr, rfl, hall⟩
    obtain ⟨c, k', rfl, hc⟩ := hall v List.mem_cons_self
    have hrest : ∀ y ∈ rest, ∃ c k', y = .ref c ∧ Is2 knd s'.heap k' c := fun y hy => hall y (List.mem_cons_of_mem _ hy)
    dsimp only
    by_cases e : (b == c || carriedByValue (.ref b) && carriedByValue (.ref c)) = true
    · rw [if_pos e]
      exact wpAny_pure ⟨rfl, rfl, hrest⟩
    · rw [if_neg e]
      refine wpAny_bind (quiet_2 hk ?_)
      simp only [Bool.not_true, Bool.false_eq_true, if_false]
      refine wpAny_bind (quiet_2 hc ?_)
      simp only [Bool.not_true, Bool.false_eq_true, if_false]
      refine wpAny_bind (acs_2 hk ?_)
      simp only [Bool.false_eq_true, if_false]
      refine wpAny_bind (acs_2 hc ?_)
      simp only [Bool.false_eq_true, if_false]
      exact wpAny_pure ⟨rfl, rfl, hrest⟩
  · rintro ⟨r1, r2⟩ s' ⟨hr, rfl, _⟩
    simp only at hr
    subst hr
    exact wpAny_pure h
theorem probe_is {t : SetTable} (hd : t.dummies = #[]) {f : Nat → Int} {x : Int} {p : SetTable.Probe} {d : Nat} (h : d ≤ 10 * (t.mask + 14)) (hw : Wp t p) (he : t.slot (adn t d p).j = .empty) {m : Option SetTable.Met} (hm : t.probe f x p = m) :
    (∃ j, m = some (.empty j none) ∧ t.slot j = .empty ∧ j ≤ t.mask) ∨ (∃ j i nxt d', d' < d ∧ m = some (.candidate j i nxt) ∧ Wp t nxt ∧ t.slot j = .live i ∧ t.slot (adn t d' nxt).j = .empty) := by
  rw [← hm]
  exact probe_go hd d (10 * SetTable.turns t.mask) p (by unfold SetTable.turns; omega) hw he
theorem slot_live {t : SetTable} {j i : Nat} (h : t.slot j = .live i) : i < t.place.size := by
  unfold SetTable.slot at h
  dsimp only at h
  split at h
  · rename_i c
    cases h
    have c : t.place[SetTable.below t.place j]? = some j := by simpa using c
    exact (Array.getElem?_eq_some_iff.mp c).1
  · split at h <;> cases h
theorem Msk.odd {m : Nat} (h : Msk m) : (m % 2 == 0) = false := by rcases h with rfl | rfl | rfl | rfl <;> rfl
set_option maxHeartbeats 1000000 in
theorem search_ok {a b : Addr} {o : Obj} {es : Array (Int × Value)} {ep : Nat} {t : SetTable} {k : List (List K)} {x : Int} (hu : A.units + 1 < cLine) (ho : s.heap.get? a = some o) (hd : o.data = .set es ep t) (hf : t.fits es.size = true) (hm : Msk t.mask) (hdum : t.dummies = #[])
    (hk : Is2 knd s.heap k b) (hes : ∀ e ∈ es.toList, ∃ c k', e.2 = .ref c ∧ Is2 knd s.heap k' c ∧ k' ≠ k) {Q : SetFound → Shared → Prop} (hQ : ∀ j, t.slot j = .empty → j ≤ t.mask → Q (.free j false) s) :
    ∀ (fuel d : Nat) (stand : Option SetTable.Probe), d < fuel → d ≤ 10 * (t.mask + 14) → Wp t (stand.getD (t.probeStart x)) → t.slot (adn t d (stand.getD (t.probeStart x))).j = .empty → wpAny (model P w) A (setSearchFrom a (.ref b) x true fuel stand) Q E s
  | 0, d, _, h, _, _, _ => absurd h (by omega)
  | fuel + 1, d, stand, h, hdm, hw, he => by
    unfold setSearchFrom
    refine wpAny_bind (wpAny_setState_of ho hd hf ?_)
    dsimp only
    have hg : t.gaveWay = false := hm.odd
    rw [hg]
    simp only [Bool.false_eq_true, if_false]
    generalize hpp : SetTable.probe t _ x (stand.getD (t.probeStart x)) = m
    rcases probe_is hdum hdm hw he hpp with ⟨j, rfl, hj, hjm⟩ | ⟨j, i, nxt, d', hd', rfl, hwn, hli, hen⟩
    · dsimp only
      exact wpAny_pure (hQ j hj hjm)
    · dsimp only
      have hi : i < es.size := by
        have h1 := slot_live hli
        have h2 : t.place.size = es.size := by
          unfold SetTable.fits at hf
          simp at hf
          exact hf.1
        omega
      have hev : ∃ e, es[i]? = some e ∧ e ∈ es.toList := ⟨es[i], Array.getElem?_eq_getElem hi, by simp⟩
      obtain ⟨⟨eh, ev⟩, hee, hem⟩ := hev
      obtain ⟨c, k', rfl, hc, hne⟩ := hes _ hem
      have go : wpAny (model P w) A (do
          let some (_, y) := es[i]? | unsupported "internal:set-entry"
          let equal ← holding [y] (eqBool y (.ref b))
          let (es', _, t') ← setState a
          if true && equal then return .there none
          let some same := t'.sameMemory t.moves t.mask | unsupported "set.changed-during-lookup:is-the-new-block-at-the-old-address"
          let still ← match (if same then t'.slot j else .empty) with
            | .live i' => match es'[i']? with
              | some (_, y') => do pure (if ← isSame y' y then some i' else none)
              | none => pure none
            | _ => pure none
          match still with
          | none => rule "set.search.anew"; setSearchFrom a (.ref b) x true fuel none
          | some i' => if equal then return .there (some i') else setSearchFrom a (.ref b) x true fuel (some nxt)) Q E s := by
        rw [hee]
        dsimp only
        refine wpAny_bind (wpAny_holding (eq_2 (by omega) hc hk ?_))
        rw [decide_eq_false hne]
        refine wpAny_bind (wpAny_setState_of ho hd hf ?_)
        dsimp only
        have hsm : t.sameMemory t.moves t.mask = some true := by unfold SetTable.sameMemory; rw [if_pos (by simp)]
        rw [hsm]
        simp only [Bool.and_false, Bool.false_eq_true, if_false, if_true]
        rw [hli]
        dsimp only
        rw [hee]
        dsimp only
        refine wpAny_bind (wpAny_isSame_ref_self (wpAny_bind (wpAny_pure ?_)))
        simp only [if_true]
        exact search_ok hu ho hd hf hm hdum hk hes hQ fuel d' (some nxt) (by omega) (by omega) hwn hen
      by_cases hl : t.led = true
      · rw [hl]
        simp only [Bool.not_true, Bool.false_eq_true, if_false]
        exact go
      · have hl : t.led = false := by simpa using hl
        rw [hl]
        simp only [Bool.not_false, if_true]
        refine wpAny_bind (seen_not hk _ (fun y hy => ?_) ?_)
        · obtain ⟨e, he1, rfl⟩ := List.mem_map.mp hy
          have : e ∈ es.toList := by
            have := (Array.mem_filter.mp (Array.mem_toList_iff.mp he1)).1
            exact Array.mem_toList_iff.mpr this
          obtain ⟨c, k', q1, q2, _⟩ := hes e this
          exact ⟨c, k', q1, q2⟩
        · simp only [Bool.false_eq_true, if_false]
          exact go
end
end L2
namespace L2
open PySem PySem.Spec PyProof.Rows
structure Ow (mask : Nat) (owner : Array (Option Nat)) (k : Nat) : Prop where
  size : owner.size = mask + 1
  cnt : owner.toList.countP Option.isSome = k
  lt : ∀ v, some v ∈ owner.toList → v < k
theorem free_ok {mask : Nat} {owner : Array (Option Nat)} : ∀ (fuel m i p : Nat), m < fuel → i ≤ mask → (owner.getD (lp mask m (i, p)).1 (some 0)).isNone = true → ∃ j, SetTable.layClean.free mask owner fuel i p = some j ∧ (owner.getD j (some 0)).isNone = true
  | 0, m, i, p, h, _, _ => absurd h (by omega)
  | fuel + 1, m, i, p, h, hi, he => by
    unfold SetTable.layClean.free
    cases c : (List.range (SetTable.runEnd mask i + 1 - i)).find? fun k => (owner.getD (i + k) (some 0)).isNone with
    | some k => exact ⟨i + k, rfl, by have := List.find?_some c; simpa using this⟩
    | none =>
      cases m with
      | zero =>
        exfalso
        have := List.find?_eq_none.mp c 0 (List.mem_range.mpr (by have := (run_le hi).1; omega))
        rw [Nat.add_zero] at this
        exact this he
      | succ m =>
        dsimp only
        have hi' : (SetTable.leap mask i p).1 ≤ mask := lp_le 1 (i, p) hi
        exact free_ok fuel m _ _ (by omega) hi' he
theorem Ow.hole {mask k : Nat} {owner : Array (Option Nat)} (h : Ow mask owner k) (hk : k ≤ mask) : ∃ e, e ≤ mask ∧ (owner.getD e (some 0)).isNone = true := by
  have hl : owner.toList.length = mask + 1 := by rw [Array.length_toList]; exact h.size
  have hex : ∃ x ∈ owner.toList, ¬ (x.isSome = true) := by
    apply Classical.byContradiction
    intro hn
    have : owner.toList.countP Option.isSome = owner.toList.length := List.countP_eq_length.mpr fun x hx => Classical.byContradiction fun z => hn ⟨x, hx, z⟩
    rw [h.cnt] at this; omega
  obtain ⟨x, hx, hn⟩ := hex
  obtain ⟨e, he, ee⟩ := List.mem_iff_getElem.mp hx
  have hs : e < owner.size := by rw [Array.length_toList] at he; exact he
  refine ⟨e, by have := h.size; omega, ?_⟩
  rw [Array.getD_eq_getD_getElem?, Array.getElem?_eq_getElem hs]
  have : owner[e] = x := by rw [← ee]; simp
  rw [this]
  cases x with
  | none => rfl
  | some v => exact absurd rfl hn
theorem Ow.put {mask k j : Nat} {owner : Array (Option Nat)} (h : Ow mask owner k) (hj : (owner.getD j (some 0)).isNone = true) : Ow mask (owner.setIfInBounds j (some k)) (k + 1) := by
  have hs : j < owner.size := by
    apply Classical.byContradiction
    intro hn
    rw [Array.getD_eq_getD_getElem?, Array.getElem?_eq_none (by omega)] at hj
    cases hj
  have hl : j < owner.toList.length := by rw [Array.length_toList]; exact hs
  have hv : owner.toList[j] = none := by
    rw [Array.getD_eq_getD_getElem?, Array.getElem?_eq_getElem hs] at hj
    have : owner.toList[j] = owner[j] := by simp
    rw [this]
    simpa using hj
  refine ⟨by rw [Array.size_setIfInBounds]; exact h.size, ?_, fun v hm => ?_⟩
  · rw [Array.toList_setIfInBounds, List.countP_set hl, hv, h.cnt]
    simp
  · rw [Array.toList_setIfInBounds] at hm
    rcases List.mem_or_eq_of_mem_set hm with q | q
    · have := h.lt v q; omega
    · cases q; omega
theorem lay_fold {mask : Nat} (hm : Msk mask) (f : Option (Array (Option Nat) × Nat) → Int → Option (Array (Option Nat) × Nat))
    (hf : ∀ owner k h, f (some (owner, k)) h = (SetTable.layClean.free mask owner (SetTable.turns mask) (SetTable.bits h % (mask + 1)) (SetTable.bits h)).bind fun j => some (owner.setIfInBounds j (some k), k + 1)) :
    ∀ (hs : List Int) (owner : Array (Option Nat)) (k : Nat), Ow mask owner k → k + hs.length ≤ mask + 1 → ∃ ow, hs.foldl f (some (owner, k)) = some (ow, k + hs.length) ∧ Ow mask ow (k + hs.length)
  | [], owner, k, h, _ => ⟨owner, rfl, h⟩
  | x :: hs, owner, k, h, hl => by
    have hl' : k + (hs.length + 1) ≤ mask + 1 := hl
    obtain ⟨e, he, hn⟩ := h.hole (by omega)
    have hi : SetTable.bits x % (mask + 1) ≤ mask := Nat.le_of_lt_succ (Nat.mod_lt _ (Nat.succ_pos _))
    obtain ⟨m, h1, h2⟩ := lp_all hm (i := SetTable.bits x % (mask + 1)) (p := SetTable.bits x) hi (bits_lt x) he
    obtain ⟨j, ej, hj⟩ := free_ok (mask := mask) (owner := owner) (SetTable.turns mask) m _ _ (by unfold SetTable.turns; omega) hi (by rw [h2]; exact hn)
    have ih := lay_fold hm f hf hs (owner.setIfInBounds j (some k)) (k + 1) (h.put hj) (by omega)
    rw [List.foldl_cons, hf, ej]
    show ∃ ow, List.foldl f (some (owner.setIfInBounds j (some k), k + 1)) hs = _ ∧ _
    rw [List.length_cons, show k + (hs.length + 1) = k + 1 + hs.length by omega]
    exact ih
theorem clean_ok {mask : Nat} (hm : Msk mask) (hs : Array Int) (hn : hs.size ≤ mask) : ∃ ow, SetTable.layClean mask hs = some ow ∧ Ow mask ow hs.size := by
  have h0 : Ow mask (Array.replicate (mask + 1) none) 0 := ⟨by simp, by simp, fun v hv => by simp at hv⟩
  unfold SetTable.layClean
  rw [← Array.foldl_toList]
  obtain ⟨ow, e, h⟩ := lay_fold hm (fun acc h => do
    let (owner, k) ← acc
    let j ← SetTable.layClean.free mask owner (SetTable.turns mask) (SetTable.bits h % (mask + 1)) (SetTable.bits h)
    pure (owner.setIfInBounds j (some k), k + 1)) (fun owner k h => rfl) hs.toList (Array.replicate (mask + 1) none) 0 h0 (by rw [Array.length_toList]; omega)
  rw [e]
  refine ⟨ow, rfl, ?_⟩
  rw [Nat.zero_add, Array.length_toList] at h
  exact h
theorem live_len (L : List (Option Nat)) : ((List.range L.length).filterMap fun j => (L.getD j none).map (j, ·)).length = L.countP Option.isSome := by
  have e : L = (List.range L.length).map fun j => L.getD j none := by
    refine List.ext_getElem (by simp) fun i h1 h2 => ?_
    simp [List.getD_eq_getElem?_getD, List.getElem?_eq_getElem h1]
  rw [List.length_filterMap_eq_countP]
  conv => rhs; rw [e, List.countP_map]
  congr 1
  funext j
  show ((L.getD j none).map (j, ·)).isSome = (L.getD j none).isSome
  cases L.getD j none <;> rfl
structure Tb (t : SetTable) (n : Nat) : Prop where
  msk : Msk t.mask
  dum : t.dummies = #[]
  ris : t.place.toList.Pairwise (· < ·)
  le : ∀ x ∈ t.place.toList, x ≤ t.mask
  size : t.place.size = n
  room : n * 5 < t.mask * 3
theorem Tb.fill {t : SetTable} {n : Nat} (h : Tb t n) : t.fill = n := by unfold SetTable.fill; rw [h.dum, h.size]; rfl
theorem Tb.fits {t : SetTable} {n : Nat} (h : Tb t n) : t.fits n = true := by
  unfold SetTable.fits
  have := h.room
  rw [h.fill, h.size]
  simp; omega
theorem laid_ok {mask finger moves : Nat} {led plain : Bool} (hm : Msk mask) (hs : Array Int) (hn : hs.size * 5 < mask * 3) : ∃ t order, SetTable.laid mask finger moves led plain hs = some (t, order) ∧ Tb t hs.size ∧ order.size = hs.size ∧ ∀ v ∈ order.toList, v < hs.size := by
  obtain ⟨ow, e, h⟩ := clean_ok hm hs (by omega)
  have hL : ow.toList.length = mask + 1 := by rw [Array.length_toList]; exact h.size
  have eg : (fun j => (ow.getD j none).map fun x => (j, x)) = fun j => (ow.toList.getD j none).map fun x => (j, x) := by
    funext j
    rw [Array.getD_eq_getD_getElem?, List.getD_eq_getElem?_getD, Array.getElem?_toList]
  have ll := live_len ow.toList
  rw [hL, ← eg, h.cnt] at ll
  unfold SetTable.laid
  rw [e]
  refine ⟨_, _, rfl, ⟨hm, rfl, ?_, fun x hx => ?_, ?_, hn⟩, ?_, fun v hv => ?_⟩
  · show (List.toArray _).toList.Pairwise _
    rw [List.toList_toArray]
    exact List.pairwise_lt_range.sublist (map_sub _ _)
  · have hx : x ∈ (List.toArray _).toList := hx
    rw [List.toList_toArray] at hx
    have := (map_sub (fun j => ow.getD j none) (List.range (mask + 1))).subset hx
    exact Nat.le_of_lt_succ (List.mem_range.mp this)
  · show (List.toArray _).size = _
    rw [List.size_toArray, List.length_map]; exact ll
  · show (List.toArray _).size = _
    rw [List.size_toArray, List.length_map]; exact ll
  · rw [List.toList_toArray] at hv
    obtain ⟨q, hq, rfl⟩ := List.mem_map.mp hv
    obtain ⟨j, _, hj⟩ := List.mem_filterMap.mp hq
    obtain ⟨y, hy, rfl⟩ := Option.map_eq_some_iff.mp hj
    refine h.lt y ?_
    rw [Array.getD_eq_getD_getElem?] at hy
    cases c : ow[j]? with
    | none => rw [c] at hy; cases hy
    | some z =>
      rw [c] at hy
      have hy : z = some y := hy
      rw [hy] at c
      rw [Array.mem_toList_iff]
      exact Array.mem_of_getElem? c
theorem take_all {es : Array (Int × Value)} {order : Array Nat} (h : ∀ v ∈ order.toList, v < es.size) : (order.filterMap (es[·]?)).size = order.size := by
  rw [← Array.length_toList, Array.toList_filterMap, List.length_filterMap_eq_countP, ← Array.length_toList]
  refine List.countP_eq_length.mpr fun v hv => ?_
  rw [Array.getElem?_eq_getElem (h v hv)]; rfl
end L2
namespace L2
open PySem PySem.Spec PyProof.Rows
theorem Tb.hole {t : SetTable} {n : Nat} (h : Tb t n) : ∃ e, e ≤ t.mask ∧ t.slot e = .empty := by
  have hex : ∃ e, e ≤ t.mask ∧ e ∉ t.place.toList := by
    apply Classical.byContradiction
    intro hn
    have hsub : List.range (t.mask + 1) ⊆ t.place.toList := fun e he => Classical.byContradiction fun z => hn ⟨e, Nat.le_of_lt_succ (List.mem_range.mp he), z⟩
    have := Sq.sub_len (List.range (t.mask + 1)) t.place.toList List.nodup_range fun x hx => hsub hx
    rw [List.length_range, Array.length_toList, h.size] at this
    have := h.room
    omega
  obtain ⟨e, he, hn⟩ := hex
  refine ⟨e, he, ?_⟩
  unfold SetTable.slot
  dsimp only
  rw [if_neg, h.dum, has_nil]
  · rfl
  · intro z
    have z : t.place[SetTable.below t.place e]? = some e := by simpa using z
    exact hn (Array.mem_toList_iff.mpr (Array.mem_of_getElem? z))
structure Tc (t : SetTable) (n : Nat) : Prop where
  msk : Msk t.mask
  dum : t.dummies = #[]
  ris : t.place.toList.Pairwise (· < ·)
  le : ∀ x ∈ t.place.toList, x ≤ t.mask
  size : t.place.size = n
theorem Tc.tb {t : SetTable} {n : Nat} (h : Tc t n) (r : n * 5 < t.mask * 3) : Tb t n := ⟨h.msk, h.dum, h.ris, h.le, h.size, r⟩
theorem Tc.fill {t : SetTable} {n : Nat} (h : Tc t n) : t.fill = n := by unfold SetTable.fill; rw [h.dum, h.size]; rfl
theorem Tc.plain {t : SetTable} {n : Nat} (h : Tc t n) : Tc { t with plain := false } n := ⟨h.msk, h.dum, h.ris, h.le, h.size⟩
theorem Tb.put {t : SetTable} {n j : Nat} (h : Tb t n) (hs : t.slot j = .empty) (hj : j ≤ t.mask) : Tc (t.put j).1 (n + 1) := by
  have k : TOk t t.led := ⟨h.ris, h.dum, rfl⟩
  have k2 := k.put hs
  refine ⟨h.msk, k2.dum, k2.ris, fun x hx => ?_, ?_⟩
  · have hx : x ∈ (SetTable.insertAt t.place (SetTable.below t.place j) j).toList := hx
    rw [insert_list] at hx
    show x ≤ t.mask
    rcases List.mem_append.mp hx with q | q
    · exact h.le x (List.mem_of_mem_take q)
    · rcases List.mem_cons.mp q with rfl | q
      · exact hj
      · exact h.le x (List.mem_of_mem_drop q)
  · show (SetTable.insertAt t.place (SetTable.below t.place j) j).size = n + 1
    rw [← Array.length_toList, insert_list, List.length_append, List.length_cons, List.length_take, List.length_drop, Array.length_toList, h.size]
    omega
section
variable {P : Program} {w : World} {K : Type} [DecidableEq K] {knd : KeyKind P w K} {A : Around} {E : Value → Shared → Prop} {s : Shared}
theorem Is2.fix {h h' : Heap} {ks : List (List K)} {a : Addr} (x : Is2 knd h ks a) (hs : ∀ c o, h.get? c = some o → h'.get? c = some o) : Is2 knd h' ks a := by
  obtain ⟨o', items, n, ho', hc, hd', hi⟩ := x
  exact ⟨o', items, n, hs _ _ ho', hc, hd', hi.moved fun k b y => let ⟨o', items, n, ho', hc, hd', hi⟩ := y; ⟨o', items, n, hs _ _ ho', hc, hd', hi⟩⟩
variable (knd) in
/-- the set at a holds the keys l, which stand in h0 -/
def SetS (h0 h : Heap) (a : Addr) (l : List (List (List K))) : Prop :=
  ∃ o es ep t, h.get? a = some o ∧ o.ExactSet ∧ o.data = .set es ep t ∧ (∀ e ∈ es.toList, ∃ c, ∃ k ∈ l, e.2 = .ref c ∧ Is2 knd h0 k c) ∧ es.size = l.length ∧ Tb t es.size
theorem ins_mem {α : Type} {xs : Array α} {p : Nat} {x e : α} (h : e ∈ (SetTable.insertAt xs p x).toList) : e = x ∨ e ∈ xs.toList := by
  rw [insert_list] at h
  rcases List.mem_append.mp h with q | q
  · exact .inr (List.mem_of_mem_take q)
  · rcases List.mem_cons.mp q with rfl | q
    · exact .inl rfl
    · exact .inr (List.mem_of_mem_drop q)
theorem ins_size {α : Type} (xs : Array α) (p : Nat) (x : α) : (SetTable.insertAt xs p x).size = xs.size + 1 := by
  rw [← Array.length_toList, insert_list, List.length_append, List.length_cons, List.length_take, List.length_drop, Array.length_toList]
  omega
/-- the set laid anew -/
theorem relay_ok {a : Addr} {o : Obj} {es : Array (Int × Value)} {ep : Nat} {t : SetTable} {n m wanted : Nat} (ho : s.heap.get? a = some o) (hd : o.data = .set es ep t) (hf : t.fits es.size = true) (hn : es.size = n) (hm : SetTable.sizeAbove wanted = m + 1) (hk : Msk m) (hr : n * 5 < m * 3) (hz : n ≤ sizeLine)
    {Q : Unit → Shared → Prop} (h : ∀ es' t', (∀ e ∈ es'.toList, e ∈ es.toList) → es'.size = n → Tb t' n → Q () { s with heap := s.heap.update a (Obj.putSet es' t') }) : wpAny (model P w) A (setRelay a wanted) Q E s := by
  unfold setRelay
  refine wpAny_bind (wpAny_setState_of ho hd hf ?_)
  dsimp only
  have four : 600 ≤ sizeLine := by decide
  have hm6 : m + 1 ≤ 600 := by rcases hk with rfl | rfl | rfl | rfl <;> decide
  rw [hm, if_neg (by omega)]
  have hsz : (es.map (·.1)).size = n := by rw [Array.size_map]; exact hn
  obtain ⟨t', order, e1, e2, e3, e4⟩ := laid_ok (mask := m) (finger := t.finger) (moves := t.movedTo m) (led := t.led) (plain := t.plain) hk (es.map (·.1)) (by rw [hsz]; exact hr)
  have er : t.relaid (es.map (·.1)) wanted = some (t', order) := by
    unfold SetTable.relaid
    rw [hm, Nat.add_sub_cancel]; exact e1
  rw [er]
  have hta := take_all (es := es) (order := order) fun v hv => by have := e4 v hv; omega
  refine wpAny_bind ?_
  show wpAny _ _ (if ((order.filterMap (es[·]?)).size != es.size) = true then _ else _) _ _ _
  rw [if_neg (by rw [hta, e3, hsz, hn]; simp)]
  refine wpAny_pure ?_
  dsimp only
  refine wpAny_storeSet_of ho hd ?_ (by rw [hta, e3, hsz]; exact hz)
  rw [hsz] at e2
  refine h _ _ (fun e he => ?_) (by rw [hta, e3, hsz]) e2
  rw [Array.toList_filterMap] at he
  obtain ⟨v, _, hv⟩ := List.mem_filterMap.mp he
  exact Array.mem_toList_iff.mpr (Array.mem_of_getElem? hv)
set_option maxHeartbeats 1000000 in
theorem addS_ok {a b : Addr} {l : List (List (List K))} {k : List (List K)} {x : Int} {Q : Bool → Shared → Prop} (hu : A.units + 1 < cLine) {h0 : Heap} (hfx : ∀ c o, h0.get? c = some o → s.heap.get? c = some o) (hS : SetS knd h0 s.heap a l) (hk0 : Is2 knd h0 k b) (hn : k ∉ l) (hl : l.length < 200)
    (h : ∀ h', Heap.SameBut a s.heap h' → SetS knd h0 h' a (l ++ [k]) → Q true { s with heap := h' }) : wpAny (model P w) A (setAddHashed a (.ref b) x) Q E s := by
  have hk := hk0.fix hfx
  obtain ⟨o, es, ep, t, ho, hex, hd, hel, hlen, ht⟩ := hS
  unfold setAddHashed setAddHashedIn
  refine wpAny_holding (wpAny_bind (wpAny_setState_of ho hd ht.fits ?_))
  dsimp only
  have hb : byScan (.ref b) es = false := rfl
  rw [hb]
  simp only [Bool.false_eq_true, if_false]
  obtain ⟨e, he, hs⟩ := ht.hole
  obtain ⟨d, hd1, hd2⟩ := probe_some ht.msk he hs x
  have hm5 : t.mask ≤ 511 := by rcases ht.msk with q | q | q | q <;> omega
  refine wpAny_bind ?_
  unfold setSearch
  refine search_ok hu ho hd ht.fits ht.msk ht.dum hk (fun e he => ?_) (fun j hj hjm => ?_) 100000 d none (by omega) hd1 (Wp.start t x) hd2
  · obtain ⟨c, k', hk', q1, q2⟩ := hel e he
    exact ⟨c, k', q1, q2.fix hfx, fun z => hn (z ▸ hk')⟩
  dsimp only
  refine wpAny_bind (wpAny_setState_of ho hd ht.fits ?_)
  dsimp only
  have tc := ht.put hj hjm
  have hmk : (t.put j).1.mask = t.mask := rfl
  generalize (t.put j).1 = t1 at tc hmk ⊢
  generalize (t.put j).2 = p
  have fin : ∀ t2 : SetTable, Tc t2 (es.size + 1) → t2.mask = t.mask → wpAny (model P w) A (do
      storeSet a (SetTable.insertAt es p (x, .ref b)) t2
      if !false && t2.tooFull then setRelay a (SetTable.grown (es.size + 1))
      return true) Q E s := by
    intro t2 tc hmk
    have hz : (SetTable.insertAt es p (x, .ref b)).size ≤ sizeLine := by
      rw [ins_size]
      have four : 600 ≤ sizeLine := by decide
      omega
    refine wpAny_bind (wpAny_storeSet_of ho hd ?_ hz)
    have g1 : (s.heap.update a (Obj.putSet (SetTable.insertAt es p (x, .ref b)) t2)).get? a = some { o with data := .set (SetTable.insertAt es p (x, .ref b)) (ep + 1) t2 } := by
      have z := Heap.get?_update_self (Obj.putSet (SetTable.insertAt es p (x, .ref b)) t2) ho (by rw [putSet_of _ t2 hd]; rfl)
      rw [putSet_of _ t2 hd] at z; exact z
    have sb := Heap.SameBut.update s.heap a (Obj.putSet (SetTable.insertAt es p (x, .ref b)) t2)
    have hmem : ∀ e ∈ (SetTable.insertAt es p (x, Value.ref b)).toList, ∃ c, ∃ k' ∈ l ++ [k], e.2 = .ref c ∧ Is2 knd h0 k' c := fun e he => by
      rcases ins_mem he with rfl | he
      · exact ⟨b, k, by simp, rfl, hk0⟩
      · obtain ⟨c, k', hk', q1, q2⟩ := hel e he
        exact ⟨c, k', by simp [hk'], q1, q2⟩
    by_cases hfull : (!false && t2.tooFull) = true
    · rw [if_pos hfull]
      have hfull : t2.fill * 5 ≥ t2.mask * 3 := by simpa [SetTable.tooFull] using hfull
      rw [tc.fill] at hfull
      have hroom := ht.room
      have hsz := ins_size es p (x, Value.ref b)
      generalize hES : SetTable.insertAt es p (x, Value.ref b) = es1 at *
      have hgo : ∃ m, SetTable.sizeAbove (SetTable.grown (es.size + 1)) = m + 1 ∧ Msk m ∧ (es.size + 1) * 5 < m * 3 := by
        have hlt : es.size + 1 ≤ 200 := by omega
        rcases ht.msk with q | q | q | q <;> rw [hmk, q] at hfull <;> rw [q] at hroom
        · refine ⟨31, ?_, .inr (.inl rfl), by omega⟩
          rw [show es.size = 4 by omega]; decide
        · refine ⟨127, ?_, .inr (.inr (.inl rfl)), by omega⟩
          rw [show es.size = 18 by omega]; decide
        · refine ⟨511, ?_, .inr (.inr (.inr rfl)), by omega⟩
          rw [show es.size = 76 by omega]; decide
        · omega
      obtain ⟨m, m1, m2, m3⟩ := hgo
      refine wpAny_bind (relay_ok (n := es.size + 1) g1 rfl ?_ hsz m1 m2 m3 (by rw [hsz] at hz; exact hz) fun es' t' q1 q2 q3 => ?_)
      · unfold SetTable.fits
        rw [tc.fill, tc.size, hsz]
        simp
        rw [hmk]
        rcases ht.msk with q | q | q | q <;> rw [q] at hroom ⊢ <;> omega
      · have g2 : ((s.heap.update a (Obj.putSet es1 t2)).update a (Obj.putSet es' t')).get? a = some { o with data := .set es' (ep + 1 + 1) t' } := by
          have z := Heap.get?_update_self (Obj.putSet es' t') g1 (by rw [putSet_of es' t' rfl]; rfl)
          rw [putSet_of es' t' rfl] at z; exact z
        have sb2 := sb.trans (Heap.SameBut.update _ a (Obj.putSet es' t'))
        refine wpAny_pure (h _ sb2 ⟨_, es', _, t', g2, hex, rfl, fun e he => hmem e (q1 e he), by rw [q2, List.length_append, hlen]; rfl, by rw [q2]; exact q3⟩)
    · rw [if_neg hfull]
      have hroom : (es.size + 1) * 5 < t2.mask * 3 := by
        have z : ¬ (t2.fill * 5 ≥ t2.mask * 3) := by simpa [SetTable.tooFull] using hfull
        rw [tc.fill] at z; omega
      refine wpAny_bind (wpAny_pure (wpAny_pure (h _ sb ⟨_, _, _, t2, g1, hex, rfl, fun e he => hmem e he, by rw [ins_size, List.length_append, hlen]; rfl, by rw [ins_size]; exact tc.tb hroom⟩)))
  by_cases hp : t1.plain = true
  · rw [if_pos hp]
    refine wpAny_bind (hbv_2 hk fun c => ?_)
    cases c with
    | true => exact fin _ tc hmk
    | false => exact fin _ tc.plain hmk
  · rw [if_neg hp]
    exact wpAny_bind (wpAny_pure (fin _ tc hmk))
theorem SetS.at {h0 h h' : Heap} {a : Addr} {l : List (List (List K))} (x : SetS knd h0 h a l) (k : ∀ o, h.get? a = some o → h'.get? a = some o) : SetS knd h0 h' a l := by
  obtain ⟨o, es, ep, t, ho, r⟩ := x
  exact ⟨o, es, ep, t, k o ho, r⟩
theorem setS_fresh (h0 h : Heap) (b : Bool) : SetS knd h0 (h.push { cls := .type "set", dict := none, data := .set #[] 0 (.fresh 0 0 b) }) h.objs.size [] :=
  ⟨_, #[], 0, _, Heap.get?_push_size _ rfl, ⟨rfl, rfl, rfl⟩, rfl, fun e he => by simp at he, rfl, ⟨.inl rfl, rfl, List.Pairwise.nil, fun x hx => (by simp [SetTable.fresh] at hx), rfl, (by show 0 * 5 < 7 * 3; decide)⟩⟩
end
section
variable {P : Program} {w : World} {K : Type} [DecidableEq K] {knd : KeyKind P w K} {A : Around} {R : Result → Shared → Prop} {I : Addr} {fp wr : List Addr} {G : Array GenState → Array GenState → Prop} {n : Nat} {Pp : Nat → Value → Prop} {St : Nat → Shared → Prop}
theorem loopS_ok (W : WalksS P w A.in1 I fp wr G n Pp St) (S : Addr) (hSf : S ∉ fp) (h0 : Heap) (hout : ∀ c o, h0.get? c = some o → c ∉ S :: wr) (ks : List (List (List K))) (hnd : ks.Nodup) (hn : ks.length = n) (hval : ∀ i v, Pp i v → ∃ c k, v = .ref c ∧ ks[i]? = some k ∧ Is2 knd h0 k c) (hb : n < 200) (hu : A.in1.units + 1 < cLine) :
    ∀ (k i : Nat) (s : Shared), n - i = k → i ≤ n → St i s → (∀ c o, h0.get? c = some o → s.heap.get? c = some o) → SetS knd h0 s.heap S (ks.take i) →
    (∀ s', Moved (S :: wr) G s s' → SetS knd h0 s'.heap S ks → R (.ok (.ret .none)) s') → codeAny (model P w) A (.builtin "set.update.loop" ⟨[.ref S, .ref I], []⟩) R s := by
  have nw : S ∉ wr := fun z => hSf (W.sub _ z)
  have up : ∀ c ∈ wr, c ∈ S :: wr := fun c z => List.mem_cons_of_mem _ z
  intro k
  induction k with
  | zero =>
    intro i s hk hi hst hfx hS hR
    obtain rfl : i = n := by omega
    rw [List.take_of_length_le (by omega)] at hS
    refine codeAny_builtin PyProof.Rows.F.entry_set_update_loop (by
      rw [Around.under_plainId PyProof.Rows.F.plain_set_update_loop _]
      show wpAny _ A.in1 (pyNext (.ref I) >>= _) _ _ s
      exact wpAny_bind (W.done s _ _ hst fun s' hm => wpAny_pure (hR s' (hm.mono up) (hS.at fun o z => hm.heap S _ nw z))))
  | succ k ih =>
    intro i s hk hi hst hfx hS hR
    have hlt : i < n := by omega
    refine codeAny_builtin PyProof.Rows.F.entry_set_update_loop (by
      rw [Around.under_plainId PyProof.Rows.F.plain_set_update_loop _]
      show wpAny _ A.in1 (pyNext (.ref I) >>= _) _ _ s
      refine wpAny_bind (W.item i s _ _ hlt hst fun v s' hP hst' hm => ?_)
      obtain ⟨c, kk, rfl, hki, hc⟩ := hval i v hP
      have hS' : SetS knd h0 s'.heap S (ks.take i) := hS.at fun o z => hm.heap S _ nw z
      have hfx' : ∀ c o, h0.get? c = some o → s'.heap.get? c = some o := fun c o z => hm.heap c o (fun q => hout c o z (up c q)) (hfx c o z)
      show wpAny _ A.in1 (holding [Value.ref c] (setAdd S (.ref c)) >>= _) _ _ s'
      refine wpAny_bind (wpAny_holding ?_)
      unfold setAdd
      refine wpAny_holding (wpAny_bind (hash_2 hu (hc.fix hfx') ?_))
      have hnin : kk ∉ ks.take i := fun z => by
        obtain ⟨j, hj, ej⟩ := List.mem_iff_getElem.mp z
        rw [List.length_take] at hj
        rw [List.getElem_take] at ej
        have := (List.getElem?_inj (i := i) (j := j) (by omega) hnd).mp (by rw [hki, List.getElem?_eq_getElem (by omega), ej])
        omega
      refine addS_ok (s := { s' with toks := s'.toks + (draw2 kk + 1) }) hu hfx' hS' hc hnin (by rw [List.length_take]; omega) fun h' sb hS2 => ?_
      have hSi : SetS knd h0 h' S (ks.take (i + 1)) := by rw [List.take_add_one, hki]; exact hS2
      have hSw : ∀ c o, h0.get? c = some o → c ≠ S := fun c o z q => hout c o z (by rw [q]; exact List.mem_cons_self)
      refine wpAny_pure ⟨plainId_quiet PyProof.Rows.F.plain_set_update_loop _, ih (i + 1) _ (by omega) hlt (W.frame _ s' _ _ hst' (by show s'.toks ≤ s'.toks + _; omega) fun c hc o e => ?_) (fun c o z => by rw [sb.2 c (hSw c o z)]; exact hfx' c o z) hSi fun s2 hm2 hS3 => ?_⟩
      · rw [sb.2 c (fun z : c = S => hSf (by rw [← z]; exact hc))]; exact e
      · refine hR s2 (Moved.trans W.gtrans ((hm.mono up).then_heap (by show s'.toks ≤ s'.toks + _; omega) fun c o hc e => ?_) hm2) hS3
        rw [sb.2 c (fun z : c = S => hc (by rw [z]; exact List.mem_cons_self))]; exact e)
end
end L2
namespace L2
open PySem PySem.Spec PyProof.Rows
section
variable {P : Program} {w : World} {K : Type} [DecidableEq K] {knd : KeyKind P w K} {A : Around} {E : Value → Shared → Prop} {s : Shared}
set_option maxHeartbeats 3200000 in
theorem setLS_ok {l : Addr} {items : Array Value} {ks : List (List (List K))} {Q : Value → Shared → Prop} (hh : A.handled = none) (hl : s.heap.IsList l items) (hi : ∀ (i : Nat) (v : Value), items[i]? = some v → ∃ c k, v = .ref c ∧ ks[i]? = some k ∧ Is2 knd s.heap k c) (hns : ks.length = items.size) (hnd : ks.Nodup) (hb : items.size < 200) (hu : A.units + 20 < cLine)
    (h : ∀ (h' : Heap) (tk : Nat), SetS knd s.heap h' s.heap.objs.size ks → (∀ c o, s.heap.get? c = some o → h'.get? c = some o) → Q (.ref s.heap.objs.size) { s with heap := h', toks := tk }) :
    wpAny (model P w) A (call (.type "set") [.ref l]) Q E s := by
  obtain ⟨c0, tl, hmro⟩ := PySem.F.called_set.mro
  have hmade := PySem.F.called_set.made
  have hsub := PySem.F.called_set.sub
  refine wpAny_call (codeAny_of_tree ?_)
  show wpAny _ _ (callAny (.type "set") _) _ _ _
  refine wpAny_pure ⟨Code.quiet_builtin _ (by decide +kernel), codeAny_builtin PySem.F.entry_type_call ?_⟩
  rw [Around.under_plain (weight_type_call_type "set" [.ref l] []) rfl]
  have h1 := PySem.F.called_set.notType
  have h2 := PySem.F.called_set.canCreate
  have hct := PySem.F.typeCall_set_1 (.ref l)
  repeat (any_goals (first | assumption | wp_step))
  generalize hbb : (!w.params.followText "set-order") = bb
  refine codeAny_mono (new_ok (.ref l) (E := E) (Q1 := fun obj s1 => obj = .ref s.heap.objs.size ∧ s1 = { s with heap := s.heap.push { cls := .type "set", dict := none, data := .set #[] 0 (.fresh 0 0 bb) } }) (by rw [hbb]; exact ⟨rfl, rfl⟩)) fun r s1 hr => ?_
  cases r with
  | error e => exact hr
  | ok fl =>
    cases fl with
    | next => exact hr.elim
    | brk => exact hr.elim
    | cont => exact hr.elim
    | ret obj =>
      obtain ⟨rfl, rfl⟩ := hr
      have hS : (s.heap.push { cls := .type "set", dict := none, data := .set #[] 0 (.fresh 0 0 bb) }).get? s.heap.objs.size = some { cls := .type "set", dict := none, data := .set #[] 0 (.fresh 0 0 bb) } := Heap.get?_push_size _ rfl
      have hT : Shared.TypeIs { s with heap := s.heap.push { cls := .type "set", dict := none, data := .set #[] 0 (.fresh 0 0 bb) } } (.ref s.heap.objs.size) "set" := ⟨_, hS, rfl⟩
      have hli := PySem.F.called_set.init.lookup
      have hbi := PySem.F.called_set.init.bind (.ref s.heap.objs.size)
      repeat (any_goals (first | assumption | wp_step))
      refine codeAny_mono (codeAny_call_builtin (R := wants (fun r s2 => r = .none ∧ ∃ h' tk, s2 = { s with heap := h', toks := tk } ∧ SetS knd s.heap h' s.heap.objs.size ks ∧ (∀ c o, s.heap.get? c = some o → h'.get? c = some o)) E) PySem.F.called_set.init.plain PySem.F.entry_set_init (check_set_init_1 hT ?_)) fun r2 s2 hr2 => ?_
      · obtain ⟨ol, hol, hcl, nl, hdl⟩ := hl
        obtain ⟨ocls, odict, odata, oslots⟩ := ol
        simp only at hcl hdl
        subst hcl; subst hdl
        have hol' : (s.heap.push { cls := .type "set", dict := none, data := .set #[] 0 (.fresh 0 0 bb) }).get? l = some { cls := .type "list", dict := odict, data := .seq items nl, slots := oslots } := Heap.get?_push_of_some _ hol
        have hsls := PySem.F.sub_list_set
        have hslf := PySem.F.sub_list_frozenset
        have hne : (Value.type "list" == Value.type "dict") = false := by decide
        have hl1 : (s.heap.push { cls := .type "set", dict := none, data := .set #[] 0 (.fresh 0 0 bb) }).IsList l items := ⟨_, hol', rfl, nl, rfl⟩
        unfold Builtin.«set.__init__» noKeywords Builtin.Frozenset.updateFrom
        generalize hPI : pyIter = PI
        wp_walk
        subst hPI
        refine wpAny_pyIter_list hl1 ?_; refine wpAny_bind (wpAny_runValue ?_)
        have hlS : l < s.heap.objs.size := Heap.lt_size hol
        have hh3 : A.in1.in1.in1.handled = none := by simp [hh]
        have hneI : l ≠ (s.heap.push { cls := .type "set", dict := none, data := .set #[] 0 (.fresh 0 0 bb) }).objs.size := by
          rw [Heap.size_push]; exact Nat.ne_of_lt (Nat.lt_succ_of_lt hlS)
        have hSf : s.heap.objs.size ∉ [(s.heap.push { cls := .type "set", dict := none, data := .set #[] 0 (.fresh 0 0 bb) }).objs.size, l] := by
          rw [Heap.size_push]; simp only [List.mem_cons, List.not_mem_nil, or_false, not_or]
          exact ⟨Nat.ne_of_lt (Nat.lt_succ_self _), Nat.ne_of_gt hlS⟩
        refine loopS_ok (knd := knd) ((Walks.list hh3 _ l hneI items).toS) s.heap.objs.size hSf s.heap (fun c o z => ?hO) ks hnd hns hi hb (by simp; omega) (items.size - 0) 0 _ (by omega) (Nat.zero_le _) ⟨⟨_, Heap.get?_push_size _ rfl, rfl, rfl⟩, (hl1.push _)⟩ (fun c o z => Heap.get?_push_of_some _ (Heap.get?_push_of_some _ z)) ?hS0 ?hR
        case hO =>
          have hlt := Heap.lt_size z
          simp only [List.mem_cons, List.not_mem_nil, or_false, not_or]
          exact ⟨Nat.ne_of_lt hlt, by rw [Heap.size_push]; exact Nat.ne_of_lt (Nat.lt_succ_of_lt hlt)⟩
        case hS0 => exact (setS_fresh s.heap s.heap bb).at fun o z => Heap.get?_push_of_some _ z
        case hR =>
          intro s' hm hS'
          obtain ⟨h', g', d', tk', os'⟩ := s'
          obtain rfl : g' = s.gens := hm.gens
          obtain rfl : d' = s.drawn := hm.drawn
          obtain rfl : os' = s.os := hm.os
          show wpAny _ _ _ _ _ _
          refine wpAny_pure ?_
          show wpAny _ _ (ret Value.none) _ _ _
          refine wpAny_pure ⟨rfl, h', tk', rfl, hS', fun c o e => ?_⟩
          have hlt := Heap.lt_size e
          refine hm.heap c o ?_ (Heap.get?_push_of_some _ (Heap.get?_push_of_some _ e))
          simp only [List.mem_cons, List.not_mem_nil, or_false, not_or]
          exact ⟨Nat.ne_of_lt hlt, by rw [Heap.size_push]; exact Nat.ne_of_lt (Nat.lt_succ_of_lt hlt)⟩
      · cases r2 with
        | error e => exact hr2
        | ok fl2 =>
          cases fl2 with
          | next => exact hr2.elim
          | brk => exact hr2.elim
          | cont => exact hr2.elim
          | ret r =>
            obtain ⟨rfl, h', tk, rfl, hS', hk'⟩ := hr2
            repeat (any_goals (first | assumption | wp_step))
            exact h _ _ hS' hk'
end
def isSS (a : Addr) (n : Nat) (h : Heap) : Prop := ∃ o es ep t, h.get? a = some o ∧ o.ExactSet ∧ o.data = .set es ep t ∧ es.size = n ∧ t.fits n = true ∧ n ≤ 1000
def ssO (a : Addr) (n : Nat) : HO := .ext (isSS a n)
section
variable {X : Cx}
def rSetS (K : PySem.W.Frag) (A : Around) : List V → Hp → VK → Prop := fun xs H Q => ∃ (p : Addr) (as : List Addr) (ks : List (List Nat × List Nat)), xs = [.ref p] ∧ SqL K H p (as.map V.ref) ∧ as.length = ks.length ∧ (∀ (i : Nat) (b : Addr) (e : List Nat × List Nat), as[i]? = some b → ks[i]? = some e → ShAt H b e.1 e.2) ∧ ks.Nodup ∧ ks.length < 200 ∧ A.units + 20 < cLine ∧
  ∀ a, H a = none → Q (.ref a) (upd H a (ssO a ks.length))
theorem vals_ref : ∀ {as : List Addr} {us : List Value}, Vals (as.map V.ref) us → us = as.map Value.ref
  | [], _, .nil => rfl
  | a :: as, _, .cons r t => by
    have r : _ = Value.ref a := r
    rw [r, vals_ref t]; rfl
theorem call_setS (hc : X.calm = true) : CallR X (.type "set") (rSetS X.K X.A) := by
  intro pins s σ H xs us Q I rr h
  obtain ⟨p, as, ks, rfl, hp, hl, hsh, hnd, hb, hu, q⟩ := h
  obtain ⟨u, rfl, ru⟩ := vals1 rr
  obtain rfl : u = Value.ref p := ru
  obtain ⟨its, rv, pl, _⟩ := I.list hp
  have hI := vals_ref rv
  have hlen : its.length = ks.length := by rw [← rv.length, List.length_map, hl]
  refine setLS_ok (knd := mixKind X.prog X.w) (ks := ks.map skey) (I.ok.hd hc) pl.isList (fun i v hv => ?_) (by rw [List.length_map]; simp [hlen]) (List.pairwise_map.mpr (List.Pairwise.imp (fun hne e => hne (skey_inj e)) hnd)) (by simp; omega) hu fun h' tk hS hk => ?_
  · have hv : its[i]? = some v := by simpa using hv
    rw [hI, List.getElem?_map] at hv
    obtain ⟨b, hb, rfl⟩ := Option.map_eq_some_iff.mp hv
    have hi : i < ks.length := by rw [← hl]; exact (List.getElem?_eq_some_iff.mp hb).1
    exact ⟨b, _, rfl, by rw [List.getElem?_map, List.getElem?_eq_getElem hi]; rfl, (hsh i b _ hb (List.getElem?_eq_getElem hi)).is2 I.hok⟩
  · obtain ⟨o, es, ep, t, ho, hex, hd, _, hsz, ht⟩ := hS
    rw [List.length_map] at hsz
    have new : isSS s.heap.objs.size ks.length h' := ⟨o, es, ep, t, ho, hex, hd, hsz, by have := ht.fits; rwa [hsz] at this, by omega⟩
    refine ⟨.ref s.heap.objs.size, _, I.laid (a := s.heap.objs.size) (o := ssO s.heap.objs.size ks.length) hk (Nat.le_refl _) ?_, rfl, q _ (I.hok.fresh (Nat.le_refl _))⟩
    exact ⟨new, ⟨o, ho⟩, fun h1 h2 ⟨o, es, ep, t, ho, r⟩ k => ⟨o, es, ep, t, k _ ho, r⟩⟩
def rLenS : List V → Hp → VK → Prop := fun xs H Q => ∃ (p : Addr) (n : Nat), xs = [.ref p] ∧ H p = some (ssO p n) ∧ Q (.int (n : Int)) H
theorem call_lenS : CallR X (.builtin "len") rLenS := by
  intro pins s σ H xs us Q I r h
  obtain ⟨p, n, rfl, hp, q⟩ := h
  obtain ⟨u, rfl, ru⟩ := vals1 r
  obtain rfl : u = Value.ref p := ru
  obtain ⟨o, es, ep, t, h1, h2, h3, h4, h5, h6⟩ := (I.hok p _ hp).1
  have four : 1000 ≤ sizeLine := by decide
  refine call_len_set h1 h2 h3 (by rw [h4]; exact h5) (by omega) ⟨.int (n : Int), H, I.tok _, ⟨_, by rw [h4]⟩, q⟩
end
end L2
namespace K1
open PySem L2 Sq
theorem boot_setK : bootBuiltins "set" = some (.type "set") := by decide +kernel
theorem dtAll_sh {K : PySem.W.Frag} {H : Hp} : ∀ {as : List Addr} {L : Tl}, as.length = L.length → (∀ (i : Nat) (b : Addr) (e : PS2 × List Nat), as[i]? = some b → L[i]? = some e → ShAt H b e.1.1 e.1.2) → DtAll K H (as.map V.ref) (L.map fun e => sd e.1.1 e.1.2)
  | [], [], _, _ => .nil
  | [], _ :: _, h, _ => by simp at h
  | _ :: _, [], h, _ => by simp at h
  | a :: as, e :: L, h, k => .cons (k 0 a e rfl rfl).dt (dtAll_sh (by simpa using h) fun i b e h1 h2 => k (i + 1) b e (by simpa using h1) (by simpa using h2))
theorem layAll_sd : ∀ L : Tl, PyData.canLayAll0 (L.map fun e => sd e.1.1 e.1.2) = true
  | [] => rfl
  | e :: L => by
    show ((sd e.1.1 e.1.2).canLay0 && PyData.canLayAll0 (L.map fun e => sd e.1.1 e.1.2)) = true
    rw [sd_lay, layAll_sd L]; rfl
theorem any_sd (p : PS2) : ∀ L : Tl, ((L.map fun e => sd e.1.1 e.1.2).any fun e => PyData.eqv e (sd p.1 p.2)) = has L p
  | [] => rfl
  | e :: L => by
    have ih := any_sd p L
    unfold has at *
    rw [List.map_cons, List.any_cons, List.any_cons, ih, sd_eqv]
    congr 1
    rw [← Bool.decide_and]
    exact decide_eq_decide.mpr ⟨fun h => Prod.ext h.1 h.2, fun h => by rw [h]; exact ⟨rfl, rfl⟩⟩
theorem sd_dep (r u : List Nat) : (sd r u).depth ≤ 10 := by
  show max (PyData.depthAll (nd r) + 1) (max (PyData.depthAll (nd u) + 1) 0) + 1 ≤ 10
  rw [nd_depth, nd_depth]; decide
theorem TS.same {H H' : Hp} {t : Addr} {L : Tl} (s : Same H H') (h : TS H t L) : TS H' t L := let ⟨ps, h1, h2, h3⟩ := h; ⟨ps, s _ _ h1, h2, fun i p e a b => let ⟨c, x, y⟩ := h3 i p e a b; ⟨c, s _ _ x, y.same s⟩⟩
/-- the sheets' own addresses -/
theorem TS.parts {H : Hp} : ∀ {ps : List Addr} {L : Tl}, ps.length = L.length → (∀ (i : Nat) (p : Addr) (e : PS2 × List Nat), ps[i]? = some p → L[i]? = some e → ∃ b, H p = some (.tup [.ref b, .str (txt e.2)]) ∧ ShAt H b e.1.1 e.1.2) →
    ∃ bs : List Addr, bs.length = L.length ∧ ∀ (i : Nat) (p b : Addr) (e : PS2 × List Nat), ps[i]? = some p → bs[i]? = some b → L[i]? = some e → H p = some (.tup [.ref b, .str (txt e.2)]) ∧ ShAt H b e.1.1 e.1.2
  | [], [], _, _ => ⟨[], rfl, fun i p b e h => by simp at h⟩
  | [], _ :: _, h, _ => by simp at h
  | _ :: _, [], h, _ => by simp at h
  | p :: ps, e :: L, h, k => by
    obtain ⟨b, h1, h2⟩ := k 0 p e rfl rfl
    obtain ⟨bs, g1, g2⟩ := TS.parts (ps := ps) (L := L) (by simpa using h) fun i p e x y => k (i + 1) p e (by simpa using x) (by simpa using y)
    refine ⟨b :: bs, by simp [g1], fun i p' b' e' x y z => ?_⟩
    cases i with
    | zero =>
      have x : p = p' := by simpa using x
      have y : b = b' := by simpa using y
      have z : e = e' := by simpa using z
      subst x y z
      exact ⟨h1, h2⟩
    | succ i => exact g2 i p' b' e' (by simpa using x) (by simpa using y) (by simpa using z)
/-- [there for there, word in found] -/
theorem compTh71 {K : PySem.W.Frag} {Hc : Hp} {t : Addr} {L : Tl} {tl : TE} {Q : VK} {σ : St} (hj : ∀ R : VK, R (.ref t) Hc → tl σ Hc R) (ht : TS Hc t L) (hn : L.length ≤ 1000)
    (k : ∀ (H' : Hp) (d : Addr) (ps bs : List Addr), Same Hc H' → Hc d = none → Hc t = some (.lst (ps.map V.ref)) → ps.length = L.length → bs.length = L.length → (∀ (i : Nat) (p b : Addr) (e : PS2 × List Nat), ps[i]? = some p → bs[i]? = some b → L[i]? = some e → Hc p = some (.tup [.ref b, .str (txt e.2)]) ∧ ShAt Hc b e.1.1 e.1.2) → H' d = some (.lst (bs.map V.ref)) → Q (.ref d) H') :
    tComp (iList K tl) 2 [] (gTup K 2 (gCons (gName 0) (gCons (gName 1) gNil))) (tVar 0) σ Hc Q := by
  obtain ⟨ps, h1, h2, h3⟩ := ht
  obtain ⟨bs, g1, g2⟩ := TS.parts h2 h3
  refine hj _ ⟨t, rfl, ⟨_, SqL.of h1⟩, fun d hd => ?_⟩
  refine comp_by (Q := fun d H' => Q (.ref d) H') L.length (bs.map V.ref) (by simp [g1]) (fun i σ H3 => (∃ o o', σ = [o, o']) ∧ Same Hc H3) ⟨⟨_, _, rfl⟩, same_upd (Same.refl _) hd⟩ ?_ ?_
  · rintro i σ H3 hi ⟨⟨o, o', rfl⟩, s3⟩ hd3
    have hp3 := SqL.of (K := K) (s3 _ _ h1)
    have hpi : ps[i]? = some (ps[i]'(by omega)) := List.getElem?_eq_getElem _
    have hbi : bs[i]? = some (bs[i]'(by omega)) := List.getElem?_eq_getElem _
    have hg : (ps.map V.ref)[i]? = some (.ref (ps[i]'(by omega))) := by rw [List.getElem?_map, hpi]; rfl
    have hy' : (bs.map V.ref)[i]? = some (.ref (bs[i]'(by omega))) := by rw [List.getElem?_map, hbi]; rfl
    obtain ⟨q1, q2⟩ := g2 i _ _ _ hpi hbi (List.getElem?_eq_getElem hi)
    refine ⟨⟨_, _, hp3, hg⟩, fun y H4 ⟨e, hy⟩ => ?_⟩
    subst e
    have hy := hy _ hp3
    rw [hg] at hy
    cases hy
    refine ⟨_, _, rfl, SqT.of (s3 _ _ q1), rfl, _, _, rfl, _, _, rfl, rfl, ?_⟩
    refine ⟨_, rfl, ?_⟩
    exact cpost hi hn hd3 hy' ⟨⟨_, _, rfl⟩, same_upd s3 hd⟩
  · rintro σ H3 ⟨⟨o, o', rfl⟩, s3⟩ hd3
    exact ⟨⟨_, SqL.of (s3 _ _ h1), by simp [h2]⟩, k H3 d ps bs s3 hd h1 h2 g1 g2 hd3⟩
theorem sh_fo7 {H : Hp} {b : Addr} {p : PS2} {r u : List Nat} (e : p = (r, u)) (h : ShAt H b r u) : ShAt H b p.1 p.2 := by subst e; exact h
theorem isfo_at {n : Nat} {p : PS2} (s : Sheet n p.1 p.2) {H : Hp} {b : Addr} {x : Nat} (hx : x < n) (hL : ∀ y, y < n → lexN false (fkey p.1 p.2 y) (fkey p.1 p.2 x) = false) (hb : ShAt H b (ren p.1 (nbr p.1 p.2 x)) (ren p.2 (nbr p.1 p.2 x))) : ShAt H b (fo n p).1 (fo n p).2 :=
  sh_fo7 (fo_of (x := p) s ⟨x, hx, hL, rfl⟩) hb
theorem sd_same {p q : PS2} (h : p = q) : PyData.eqv (sd p.1 p.2) (sd q.1 q.2) = true := by
  subst h; rw [sd_eqv]; simp
theorem td_eqv (p : PS2) : PyData.eqv (.tuple [sd p.1 p.2, .str (txt [])]) (.tuple [sd p.1 p.2, .str (txt [])]) = true := by
  show (PyData.eqv (sd p.1 p.2) (sd p.1 p.2) && (PyData.eqv (.str (txt [])) (.str (txt [])) && true)) = true
  have : PyData.eqv (.str (txt [])) (.str (txt [])) = true := by decide +kernel
  rw [this, sd_eqv]; simp
theorem td_lay (p : PS2) : PyData.canLay0 (.tuple [sd p.1 p.2, .str (txt [])]) = true := by
  show ((sd p.1 p.2).canLay0 && (PyData.canLay0 (.str (txt [])) && true)) = true
  rw [sd_lay]; decide +kernel
theorem td_dep (p : PS2) : PyData.depth (.tuple [sd p.1 p.2, .str (txt [])]) ≤ 64 := by
  show max (sd p.1 p.2).depth (max 0 0) + 1 ≤ 64
  have := sd_dep p.1 p.2
  omega
def Fnd71 (n : Nat) (x : PS2) (L : Tl) : Prop := L[0]? = some (fo n x, []) ∧ L.length ≤ 190 ∧ (L.map (·.1)).Nodup ∧ (∀ e ∈ L, e.2.length ≤ 190 ∧ (∀ c ∈ e.2, c = 115 ∨ c = 116) ∧ Sheet n e.1.1 e.1.2 ∧ fo n (mvw n e.2 x) = e.1) ∧ (∀ e ∈ L, ∀ c, (c = 115 ∨ c = 116) → has L (fo n (mvp n c e.1)) = true)
def spCl71 : Sp := fun vs H Q _ => ∃ (a t : Addr) (n : Nat) (r u : List Nat) (L : Tl), vs = [.ref a, .ref t] ∧ ShAt H a r u ∧ Sheet n r u ∧ TS H t L ∧ Fnd71 n (r, u) L ∧ ∀ H' : Hp, Same H H' → Q (.bl true) H'
section
variable {P : Program} {w : World} {K : PySem.W.Frag} {mg : Str → Option Value} {base : Heap}
abbrev n_cl71 : List Str := ["_law_sheet_here", "_law_found", "_law_have", "_law_there", "_law_word", "_law_now", "_law_letter"]
theorem sc_cl71 : FnScope n_cl71 ["_law_sheet_here", "_law_found"] (defScope sLClosed) := ⟨rfl, rfl, rfl, by decide +kernel, rfl, by decide +kernel, by decide +kernel⟩
theorem nd_cl71 : (["_law_there", "_law_word"] : List Str).Nodup := by decide +kernel
set_option maxHeartbeats 1000000 in
theorem ok_cl71 {f ff fm : Addr} {fd df dm : FuncData} (T : Bi mg) (F : Fn K mg "_law_closed" sLClosed ["_law_sheet_here", "_law_found"] f fd) (FF : Fn K mg "_law_form" sLForm ["_law_sheet_here"] ff df) (GF : FnOk P w K mg base CX0 3 ff df ["_law_sheet_here"] spLf)
    (FM : Fn K mg "_law_moved" sLMoved ["_law_sheet_here", "_law_letter"] fm dm) (GM : FnOk P w K mg base CX0 2 fm dm ["_law_sheet_here", "_law_letter"] spLm) : FnOk P w K mg base CX0 4 f fd ["_law_sheet_here", "_law_found"] spCl71 := by
  refine F.F.ok sc_cl71 (fun vs H Q E h => ?_) (fun cdv A outer s H vs Q E hr h => ?_)
  · obtain ⟨a, t, n, r, u, L, rfl, _⟩ := h; rfl
  · obtain ⟨a, t, n, r, u, L, rfl, ha, hS, ht, hL, k⟩ := h
    have hr1 : Room 1 _ := hr.mono (by decide)
    have hr2 : Room 2 _ := hr.mono (by decide)
    have hr3 : Room 3 _ := hr.mono (by decide)
    refine ⟨_, (pss_cons (ps_comp (j := 2) (N := n_cl71) (names := (defScope sLClosed).names) (N' := ["_law_there", "_law_word"]) (k := 2) (pull := []) (g := gTup K 2 (gCons (gName 0) (gCons (gName 1) gNil))) (te := (tVar 0)) rfl sc_cl71.nd rfl rfl ⟨by rfl, by decide +kernel, by decide +kernel, by rfl, by decide +kernel, by decide +kernel⟩ rfl rfl (pi_list (pv 1)) (fun _ _ _ _ _ _ => pg_tup rfl (pgs_cons (pg_name (i := 0) nd_cl71 rfl (Or.inl rfl)) (pgs_cons (pg_name (i := 1) nd_cl71 rfl (Or.inl rfl)) pgs_nil))) (fun _ _ _ _ _ _ => (pv 0)))
      (pss_cons (ps_if (PW.pt (pw_or (pt_cmpR op_eq (pe_callB call_len_seq rfl T.len PySem.boot_len (pa_cons (pv 2) pa_nil)) pe_int (nomark _)) (pw_or (pt_cmpR op_neD (pe_ix ix_list (pv 1) pe_int (fun _ _ => rfl)) (pe_tup (pa_cons (pe_call GF hr3 rfl FF.m FF.F.kp FF.b .nil pass0 (pa_cons (pv 0) pa_nil)) (pa_cons pe_str pa_nil))) (nomark _)) (pw_or1 (pt_cmpR op_ne (pe_callB call_lenS rfl T.len PySem.boot_len (pa_cons (pe_callTy (call_setS rfl) rfl T.set boot_setK (pa_cons (pv 2) pa_nil)) pa_nil)) (pe_callB call_len_seq rfl T.len PySem.boot_len (pa_cons (pv 2) pa_nil)) (nomark _)))))) (pss_one (ps_ret pe_bl)) pss_nil)
      (pss_cons (ps_for PassesOwn.never rfl (pi_list (pv 1)) (pg_tup rfl (pgs_cons (pg_name (i := 3) sc_cl71.nd rfl (Or.inl rfl)) (pgs_cons (pg_name (i := 4) sc_cl71.nd rfl (Or.inl rfl)) pgs_nil))) (pss_cons (ps_set (i := 5) sc_cl71.nd rfl (Or.inl rfl) (pv 0))
      (pss_cons (ps_for PassesOwn.never rfl (pi_str (pv 4)) (pg_name (i := 6) sc_cl71.nd rfl (Or.inl rfl)) (pss_cons (ps_if (pt_cmpR op_notIn_seq (pv 6) (pe_tup (pa_cons pe_str (pa_cons pe_str pa_nil))) (by with_unfolding_all rfl)) (pss_one (ps_ret pe_bl)) pss_nil)
      (pss_one (ps_set (i := 5) sc_cl71.nd rfl (Or.inl rfl) (pe_call GM hr2 rfl FM.m FM.F.kp FM.b .nil pass0 (pa_cons (pv 5) (pa_cons (pv 6) pa_nil)))))))
      (pss_cons (ps_if (pt_cmpR op_neD (pe_call GF hr3 rfl FF.m FF.F.kp FF.b .nil pass0 (pa_cons (pv 5) pa_nil)) (pv 3) (nomark _)) (pss_one (ps_ret pe_bl)) pss_nil)
      (pss_one (ps_for PassesOwn.never rfl (pi_str pe_str) (pg_name (i := 6) sc_cl71.nd rfl (Or.inl rfl)) (pss_one (ps_if (pt_cmpR op_notInD (pe_call GF hr3 rfl FF.m FF.F.kp FF.b .nil pass0 (pa_cons (pe_call GM hr2 rfl FM.m FM.F.kp FM.b .nil pass0 (pa_cons (pv 3) (pa_cons (pv 6) pa_nil))) pa_nil)) (pv 2) (by with_unfolding_all rfl)) (pss_one (ps_ret pe_bl)) pss_nil))))))))
      (pss_one (ps_ret pe_bl))))), ?_⟩
    have hu : ∀ {A : Around} {k : Nat}, Room k A → A.units + 20 < cLine := fun {A k} hr => by have := hr.un; omega
    have hn36 := hS.most
    obtain ⟨f1, f2, f3, f4, f5⟩ := hL
    have hL0 := (List.getElem?_eq_some_iff.mp f1).1
    dsimp only [tSeq, tAsg]
    refine compTh71 (fun R hR => ⟨_, rfl, hR⟩) ht (by omega) fun H1 d ps bs s1 hd0 h1 h2 g1 g2 hd => ?_
    have hd1 := hd
    have h3 : ∀ (i : Nat) (b : Addr) (e : PS2 × List Nat), bs[i]? = some b → L[i]? = some e → ShAt H1 b e.1.1 e.1.2 := fun i b e x y => by
      have hi := (List.getElem?_eq_some_iff.mp y).1
      exact (g2 i _ b e (List.getElem?_eq_getElem (by omega)) x y).2.same s1
    refine ⟨_, rfl, d, _, rfl, .inl (SqL.of hd), rfl, _, rfl, ?_⟩
    rw [decide_eq_false (by rw [List.length_map, g1]; intro z; injection z with z; omega)]
    refine iteF ?_
    have ht1 := s1 _ _ h1
    obtain ⟨p0, hp0⟩ : ∃ p, ps[0]? = some p := ⟨_, List.getElem?_eq_getElem (by omega)⟩
    obtain ⟨b0, hb0⟩ : ∃ b, bs[0]? = some b := ⟨_, List.getElem?_eq_getElem (by omega)⟩
    obtain ⟨q1, q2⟩ := g2 0 p0 b0 _ hp0 hb0 f1
    refine ⟨_, rfl, t, _, 0, _, rfl, rfl, SqL.of ht1, atI_nat (j := 0) (by rw [List.getElem?_map, hp0]; rfl), ?_⟩
    refine ⟨_, rfl, a, n, r, u, rfl, ha.same s1, hS, fun H2 x bx hx hLx s2 hbx => ?_⟩
    have hbx := isfo_at (p := (r, u)) hS hx hLx hbx
    refine ⟨by show 2 ≤ sizeLine; decide, fun q hq => ?_⟩
    have s3 := same_upd (o := .tup [.ref bx, .str (Str.ofString "")]) (Same.refl H2) hq
    have e3 : (upd H2 q (.tup [.ref bx, .str (Str.ofString "")])) q = some (.tup [.ref bx, .str (txt [])]) := by rw [← str_e7]; exact upd_same
    generalize upd H2 q (.tup [.ref bx, .str (Str.ofString "")]) = H3 at s3 e3
    have s13 := s2.trans s3
    refine ⟨.tuple [sd _ _, .str (txt [])], .tuple [sd _ _, .str (txt [])], .tup (SqT.of (s13 _ _ (s1 _ _ q1))) (.cons (q2.same (s1.trans s13)).dt (.cons (.str _) .nil)), .tup (SqT.of e3) (.cons (hbx.same s3).dt (.cons (.str _) .nil)), td_lay _, td_lay _, unitsD hr (td_dep _), ?_⟩
    rw [if_pos rfl, td_eqv]
    refine ⟨_, rfl, iteF ?_⟩
    have hd3 := s13 _ _ hd
    refine ⟨_, rfl, d, bs, L.map (·.1), rfl, SqL.of hd3, by rw [List.length_map, g1], (fun i b e x y => ?_), f3, by rw [List.length_map]; omega, hu hr, fun st hst => ?_⟩
    · rw [List.getElem?_map] at y
      obtain ⟨e', he', rfl⟩ := Option.map_eq_some_iff.mp y
      exact (h3 i b e' x he').same s13
    have s4 := same_upd (o := ssO st (L.map (·.1)).length) (Same.refl H3) hst
    have e4 : (upd H3 st (ssO st (L.map (·.1)).length)) st = some (ssO st (L.map (·.1)).length) := upd_same
    generalize upd H3 st (ssO st (L.map (·.1)).length) = H4 at s4 e4
    have hd4 := s4 _ _ hd3
    refine ⟨st, _, rfl, e4, ?_⟩
    refine ⟨_, rfl, d, _, rfl, .inl (SqL.of hd4), rfl, _, rfl, ?_⟩
    rw [List.length_map, List.length_map, g1, decide_eq_true rfl]
    refine iteF ?_
    have s14 := s13.trans s4
    have sH := s1.trans s14
    have ht4 := s14 _ _ ht1
    have h34 : ∀ (i : Nat) (b : Addr) (e : PS2 × List Nat), bs[i]? = some b → L[i]? = some e → ShAt H4 b e.1.1 e.1.2 := fun i b e x y => (h3 i b e x y).same s14
    have g4 : ∀ (i : Nat) (p b : Addr) (e : PS2 × List Nat), ps[i]? = some p → bs[i]? = some b → L[i]? = some e → H4 p = some (.tup [.ref b, .str (txt e.2)]) := fun i p b e x y z => sH _ _ (g2 i p b e x y z).1
    have ha4 := ha.same sH
    clear h3 g2 q1 q2 e3 e4 hbx hLx hd3 hd hd1 ht1 s2 s3 s13 s4 s14 hst hq
    refine ⟨_, rfl, t, rfl, ⟨_, SqL.of ht4⟩, ?_⟩
    refine for_list (xs := ps.map V.ref) (fun i σ H5 => ∃ o3 o4 o5 o6, σ = [some (.ref a), some (.ref t), some (.ref d), o3, o4, o5, o6] ∧ Same H4 H5) ⟨_, _, _, _, rfl, Same.refl _⟩ (fun i σ H5 _ ⟨_, _, _, _, _, s5⟩ => SqL.of (s5 _ _ ht4)) ?_ ?_
    · rintro i v σ H5 hv ⟨o3, o4, o5, o6, rfl, s5⟩
      rw [List.getElem?_map] at hv
      obtain ⟨p, hp, rfl⟩ := Option.map_eq_some_iff.mp hv
      have hi := (List.getElem?_eq_some_iff.mp hp).1
      obtain ⟨b, hb⟩ : ∃ b, bs[i]? = some b := ⟨_, List.getElem?_eq_getElem (by omega)⟩
      obtain ⟨e, he⟩ : ∃ e, L[i]? = some e := ⟨_, List.getElem?_eq_getElem (by omega)⟩
      have hem := List.mem_of_getElem? he
      obtain ⟨w1, w2, w3, w4⟩ := f4 e hem
      have hbs := (h34 i b e hb he).same s5
      refine ⟨p, _, rfl, SqT.of (s5 _ _ (g4 i p b e hp hb he)), rfl, _, _, rfl, _, _, rfl, rfl, ?_⟩
      refine ⟨_, rfl, ?_⟩
      refine ⟨_, rfl, _, rfl, for_str (fun i σ H2 => ∃ (a2 : Addr) (o6 : Option V), σ = [some (.ref a), some (.ref t), some (.ref d), some (.ref b), some (.str (txt e.2)), some (.ref a2), o6] ∧ Same H5 H2 ∧ ShAt H2 a2 (mvw n (e.2.take i) (r, u)).1 (mvw n (e.2.take i) (r, u)).2) ⟨a, _, rfl, Same.refl H5, ha4.same s5⟩ ?_ ?_⟩
      · rintro i c σ H2 hc ⟨a2, o6, rfl, s2, h2⟩
        rw [txt_get] at hc
        have hst := w2 c (List.mem_of_getElem? hc)
        refine ⟨_, rfl, by show 2 ≤ sizeLine; decide, fun tt htt => ?_⟩
        have s3 := same_upd (o := .tup [.str (Str.ofString "s"), .str (Str.ofString "t")]) (Same.refl H2) htt
        refine ⟨tt, _, rfl, .inr (SqT.of upd_same), rfl, by decide +kernel, _, rfl, ?_⟩
        have ein : inV (.str (txt [c])) [.str (Str.ofString "s"), .str (Str.ofString "t")] = true := by rcases hst with rfl | rfl <;> decide +kernel
        rw [txt_one, ein]
        refine iteF ?_
        have hSn := mvw_sheet (e.2.take i) (x := (r, u)) hS
        have en : mvw n (e.2.take (i + 1)) (r, u) = mvp n c (mvw n (e.2.take i) (r, u)) := by rw [List.take_add_one, hc]; exact mvw_snoc n _ c _
        refine ⟨_, rfl, _, rfl, a2, c, n, _, _, rfl, h2.same s3, hSn.row, hSn.col, hSn.most, fun H4 a4 s4 h4 => ?_⟩
        refine ⟨a4, _, rfl, s2.trans (s3.trans s4), ?_⟩
        rw [en]; exact h4
      · rintro σ H2 ⟨a2, o6, rfl, s2, h2⟩
        rw [txt_len, List.take_length] at h2
        have hSn := mvw_sheet e.2 (x := (r, u)) hS
        generalize mvw n e.2 (r, u) = y at *
        refine ⟨_, rfl, a2, n, _, _, rfl, h2, hSn, fun H3 x3 b3 hx3 hL3 s3 hb3 => ?_⟩
        have hb3 := isfo_at hSn hx3 hL3 hb3
        have s53 := s2.trans s3
        refine ⟨_, rfl, _, _, hb3.dt, (hbs.same s53).dt, sd_lay _ _, sd_lay _ _, unitsD hr (sd_depth _ _), ?_⟩
        rw [if_pos rfl, sd_same w4]
        refine ⟨_, rfl, iteF ?_⟩
        clear hb3 hL3 h2
        refine ⟨_, rfl, for_str (fun i σ H6 => ∃ (o6 : Option V), σ = [some (.ref a), some (.ref t), some (.ref d), some (.ref b), some (.str (txt e.2)), some (.ref a2), o6] ∧ Same H3 H6) ⟨_, rfl, Same.refl _⟩ ?_ ?_⟩
        · rintro i c σ H6 hc ⟨o6, rfl, s6⟩
          rw [str_st, txt_get] at hc
          have hst : c = 115 ∨ c = 116 := by
            match i, hc with
            | 0, hc => cases hc; exact .inl rfl
            | 1, hc => cases hc; exact .inr rfl
            | i + 2, hc => cases hc
          have s56 := s53.trans s6
          refine ⟨_, rfl, _, rfl, b, c, n, _, _, rfl, hbs.same s56, w3.row, w3.col, hn36, fun H7 b7 s7 hb7 => ?_⟩
          have hS7 : Sheet n (mvp n c e.1).1 (mvp n c e.1).2 := mvp_sheet c w3
          refine ⟨b7, n, _, _, rfl, hb7, hS7, fun H8 x8 b8 hx8 hL8 s8 hb8 => ?_⟩
          have hb8 := isfo_at (p := mvp n c e.1) hS7 hx8 hL8 hb8
          have s48 := s5.trans (s56.trans (s7.trans s8))
          have hin := f5 e hem c hst
          generalize fo n (mvp n c e.1) = F8 at *
          refine ⟨_, rfl, d, _, _, _, rfl, SqL.of (s48 _ _ hd4), hb8.dt, dtAll_sh g1 (fun i b e x y => (h34 i b e x y).same s48), sd_lay _ _, layAll_sd L, sd_dep _ _, hu hr, _, rfl, ?_⟩
          rw [any_sd, hin]
          refine iteF ?_
          exact ⟨_, rfl, s6.trans (s7.trans s8)⟩
        · rintro σ H6 ⟨o6, rfl, s6⟩
          exact ⟨_, _, _, _, rfl, s5.trans (s53.trans s6)⟩
    · rintro σ H5 ⟨o3, o4, o5, o6, rfl, s5⟩
      exact k H5 (sH.trans s5)
end
end K1
namespace K1
open PySem L2 Sq
def spCellA (K : PySem.W.Frag) : Sp := fun vs H Q _ => ∃ (a : Addr) (ns : List Int) (j : Int), vs = [.ref a, .int j] ∧ SqL K H a (ns.map V.int) ∧ 0 ≤ j ∧ j < 1000000 ∧ ∀ v : Int, Q (.int v) H
section
variable {P : Program} {w : World} {K : PySem.W.Frag} {mg : Str → Option Value} {base : Heap}
theorem scCell : FnScope ["_law_script", "_law_k"] ["_law_script", "_law_k"] (defScope sCell) := ⟨rfl, rfl, rfl, by decide +kernel, rfl, by decide +kernel, by decide +kernel⟩
theorem ok_cellA {f : Addr} {fd : FuncData} (T : Bi mg) (F : Fn K mg "_law_cell" sCell ["_law_script", "_law_k"] f fd) : FnOk P w K mg base CX0 1 f fd ["_law_script", "_law_k"] (spCellA K) := by
  refine F.F.ok scCell (fun vs H Q E h => ?_) (fun cdv A outer s H vs Q E hr h => ?_)
  · obtain ⟨a, ns, j, rfl, _⟩ := h; rfl
  · obtain ⟨a, ns, j, rfl, hS, h0, h1, k⟩ := h
    refine ⟨_, pss_cons (ps_if (pt_cmpR op_lt (pv 1) (pe_callB call_len_seq (by rfl) T.len PySem.boot_len (pa_cons (pv 0) pa_nil)) (nomark _)) (pss_one (ps_ret (pe_ix ix_list (pv 0) (pv 1) (fun _ _ => rfl)))) pss_nil)
      (pss_cons (ps_if (pt_cmpR op_eq (pe_callB call_len_seq (by rfl) T.len PySem.boot_len (pa_cons (pv 0) pa_nil)) pe_int (nomark _)) (pss_one (ps_ret pe_int)) pss_nil)
      (pss_one (ps_ret (pe_op op_mod (pe_op op_add (pe_op op_mul (pe_op op_mod (pe_ix ix_list (pv 0) (pe_op op_mod (pv 1) (pe_callB call_len_seq (by rfl) T.len PySem.boot_len (pa_cons (pv 0) pa_nil))) (fun _ _ => rfl)) pe_int) pe_int)
        (pe_op op_mul (pe_op op_mul (pv 1) (pv 1)) pe_int)) pe_int)))), ?_⟩
    refine ⟨_, rfl, _, rfl, a, _, rfl, .inl hS, _, _, rfl, rfl, _, rfl, ?_⟩
    have ix : ∀ m : Nat, m < ns.length → atI (ns.map V.int) (m : Int) = some (.int (ns.getD m 0)) := fun m hm => atI_nat (by simp [List.getD_eq_getElem?_getD, hm])
    refine ite2 (fun hlt => ?_) (fun hge => ?_)
    · have hlt : j < ((ns.map V.int).length : Int) := of_decide_eq_true hlt
      rw [List.length_map] at hlt
      have e := ix j.toNat (by omega)
      rw [Int.toNat_of_nonneg h0] at e
      exact ⟨_, rfl, _, rfl, a, _, j, _, rfl, rfl, hS, e, k _⟩
    · refine ⟨_, rfl, a, _, rfl, .inl hS, rfl, _, rfl, ?_⟩
      refine ite2 (fun _ => k 0) (fun hne => ?_)
      rw [List.length_map] at hne
      have hpos : 0 < ns.length := by
        rcases Nat.eq_zero_or_pos ns.length with e | e
        · exact absurd (decide_eq_true (by rw [e]; rfl)) hne
        · exact e
      have hp : (0 : Int) < ((ns.map V.int).length : Int) := by rw [List.length_map]; omega
      obtain ⟨m, hm⟩ := Int.eq_ofNat_of_zero_le (Int.emod_nonneg j (show ((ns.map V.int).length : Int) ≠ 0 by omega))
      have hml : m < ns.length := by
        have := Int.emod_lt_of_pos j hp
        rw [hm, List.length_map] at this
        omega
      refine ⟨_, rfl, _, rfl, _, rfl, a, _, rfl, .inl hS, _, _, rfl, rfl, hp, ?_⟩
      dsimp only
      rw [hm]
      refine ⟨a, _, _, _, rfl, rfl, hS, ix m hml, _, _, rfl, rfl, (by show (0 : Int) < 1000003; decide), _, _, rfl, rfl, .inr ⟨by decide, by decide⟩, ?_⟩
      exact ⟨_, rfl, _, rfl, _, _, rfl, rfl, .inl ⟨by omega, by omega⟩, _, _, rfl, rfl, .inr ⟨by decide, by decide⟩, _, _, rfl, rfl, _, _, rfl, rfl, (by show (0 : Int) < 1000003; decide), k _⟩
end
end K1
namespace K1
open PySem L2 Sq
def spRow (K : PySem.W.Frag) : Sp := fun vs H Q _ => ∃ (a : Addr) (ns : List Int) (j : Int) (n : Nat), vs = [.ref a, .int j, .int (n : Int)] ∧ SqL K H a (ns.map V.int) ∧ 0 ≤ j ∧ j < 900000 ∧ n ≤ 36 ∧
  ∀ (H' : Hp) (p : Addr) (r : List Nat), Same H H' → H p = none → H' p = some (.lst (nv r)) → Row n r → Q (.ref p) H'
section
variable {P : Program} {w : World} {K : PySem.W.Frag} {mg : Str → Option Value} {base : Heap}
abbrev nRow : List Str := ["_law_script", "_law_at", "_law_many", "_law_left", "_law_row_here", "_law_k"]
theorem scRow : FnScope nRow ["_law_script", "_law_at", "_law_many"] (defScope sLRow) := ⟨rfl, rfl, rfl, by decide +kernel, rfl, by decide +kernel, by decide +kernel⟩
theorem ok_row {f fc : Addr} {fd fdc : FuncData} (T : Bi mg) (F : Fn K mg "_law_row" sLRow ["_law_script", "_law_at", "_law_many"] f fd) (FC : Fn K mg "_law_cell" sCell ["_law_script", "_law_k"] fc fdc) (GC : FnOk P w K mg base CX0 1 fc fdc ["_law_script", "_law_k"] (spCellA K)) :
    FnOk P w K mg base CX0 2 f fd ["_law_script", "_law_at", "_law_many"] (spRow K) := by
  refine F.F.ok scRow (fun vs H Q E h => ?_) (fun cdv A outer s H vs Q E hr h => ?_)
  · obtain ⟨a, ns, j, n, rfl, _⟩ := h; rfl
  · obtain ⟨a, ns, j, n, rfl, hS, h0, hj, hn, k⟩ := h
    refine ⟨_, pss_cons (ps_set (i := 3) scRow.nd rfl (Or.inl rfl) (pe_callTy (call_list_rng rfl) rfl T.list boot_list (pa_cons (pe_callTy call_range1 rfl T.range PyProof.Rows.boot_range (pa_cons (pv 2) pa_nil)) pa_nil)))
      (pss_cons (ps_set (i := 4) scRow.nd rfl (Or.inl rfl) (pe_lst pa_nil))
      (pss_cons (ps_for PassesOwn.never rfl (pi_range1 rfl T.range (pa_cons (pv 2) pa_nil)) (pg_name (i := 5) scRow.nd rfl (Or.inl rfl))
        (pss_one (ps_expr (pe_bm PySem.F.plainAttrs_list PySem.F.slot_list_append PySem.F.type_list_append mt_append (pv 4) (pa_cons
          (pe_bm PySem.F.plainAttrs_list PySem.F.slot_list_pop PySem.F.type_list_pop mt_popAt (pv 3) (pa_cons (pe_op op_mod (pe_call GC hr rfl FC.m FC.F.kp FC.b .nil pass0 (pa_cons (pv 0) (pa_cons (pe_op op_add (pv 1) (pv 5)) pa_nil))) (pe_callB call_len_seq (by rfl) T.len PySem.boot_len (pa_cons (pv 3) pa_nil))) pa_nil)) pa_nil)))))
      (pss_one (ps_ret (pv 4))))), ?_⟩
    refine ⟨_, rfl, (n : Int), rfl, fun r0 hr0 => ⟨r0, n, rfl, upd_same, by omega, fun lf hlf => ?_⟩⟩
    refine ⟨Nat.zero_le _, fun ln hln => ?_⟩
    have nlfr : lf ≠ r0 := fun e => by rw [e, upd_same] at hlf; cases hlf
    have f0 : H lf = none := by rwa [upd_ne nlfr] at hlf
    have nlnl : ln ≠ lf := fun e => by rw [e, upd_same] at hln; cases hln
    have g0 : (upd H r0 (.rng 0 (n : Int))) ln = none := by rwa [upd_ne nlnl] at hln
    have nlnr : ln ≠ r0 := fun e => by rw [e, upd_same] at g0; cases g0
    have g1 : H ln = none := by rwa [upd_ne nlnr] at g0
    refine ⟨_, rfl, (n : Int), rfl, by omega, by omega, ?_⟩
    rw [Int.toNat_natCast]
    refine for_range (n := n) (fun i σ H3 => ∃ (o5 : Option V) (line left : List Nat), σ = [some (.ref a), some (.int j), some (.int (n : Int)), some (.ref lf), some (.ref ln), o5] ∧
      Same H H3 ∧ H3 lf = some (.lst (nv left)) ∧ H3 ln = some (.lst (nv line)) ∧ line.length = i ∧ (line ++ left).Perm (List.range n)) ?_ ?_ ?_
    · refine ⟨_, [], List.range n, rfl, same_upd (same_upd (same_upd (Same.refl H) hr0) f0) g1, by rw [upd_ne nlnl.symm, upd_same], upd_same, rfl, List.Perm.refl _⟩
    · rintro i σ H3 hi ⟨o5, line, left, rfl, s3, hlf3, hln3, hlen, hp⟩
      have hleft : left.length = n - i := by
        have := hp.length_eq
        simp only [List.length_append, List.length_range] at this
        omega
      have hpos : 0 < left.length := by omega
      refine ⟨_, rfl, .inl ⟨rfl, _, SqL.of hln3⟩, _, rfl, .inl ⟨rfl, _, SqL.of hlf3⟩, _, rfl, _, rfl, _, rfl, _, _, rfl, rfl, a, ns, _, rfl, s3.seq hS, by omega, by omega, fun v => ?_⟩
      refine ⟨_, rfl, lf, _, rfl, .inl (SqL.of hlf3), _, _, rfl, rfl, ?_, ?_⟩
      · rw [nv_len]; omega
      refine popDraw hlf3 hpos (by omega) fun kx y hy => ?_
      have e3 : (upd H3 lf (.lst (nv (left.eraseIdx kx)))) ln = some (.lst (nv line)) := by rw [upd_ne nlnl]; exact hln3
      refine ⟨ln, _, _, rfl, rfl, e3, ?_, ?_⟩
      · rw [nv_len]; exact small1000 (by omega)
      refine ⟨_, line ++ [y], left.eraseIdx kx, rfl, same_upd (same_upd s3 f0) g1, ?_, ?_, ?_, pop_perm hp hy⟩
      · rw [upd_ne nlnl.symm, upd_same]
      · rw [upd_same, nv_snoc]
      · rw [List.length_append, hlen]; rfl
    · rintro σ H3 ⟨o5, line, left, rfl, s3, hlf3, hln3, hlen, hp⟩
      have hl0 : left = [] := by
        have := hp.length_eq
        simp only [List.length_append, List.length_range] at this
        exact List.length_eq_zero_iff.mp (by omega)
      have hrow : Row n line := Row.of_perm (by rw [hl0, List.append_nil] at hp; exact hp)
      exact ⟨_, rfl, k H3 ln line s3 g1 hln3 hrow⟩
end
end K1
namespace K1
open PySem L2 Sq
def spTog (K : PySem.W.Frag) : Sp := fun vs H Q _ => ∃ (pr pu : Addr) (n : Nat) (r u : List Nat), vs = [.ref pr, .ref pu] ∧ RowAt K H pr r ∧ RowAt K H pu u ∧ Row n r ∧ Row n u ∧ 1 ≤ n ∧ n ≤ 36 ∧
  ∀ (H' : Hp) (a : Addr) (m : Nat) (r' u' : List Nat), Same H H' → ShAt H' a r' u' → Sheet m r' u' → m ≤ n → Q (.ref a) H'
section
variable {P : Program} {w : World} {K : PySem.W.Frag} {mg : Str → Option Value} {base : Heap}
abbrev nTog : List Str := ["_law_first", "_law_second", "_law_have", "_law_at", "_law_row_here", "_law_kept"]
theorem scTog : FnScope nTog ["_law_first", "_law_second"] (defScope sLTogether) := ⟨rfl, rfl, rfl, by decide +kernel, rfl, by decide +kernel, by decide +kernel⟩
theorem ndT1' : (["_law_k", "_law_kept", "_law_first"] : List Str).Nodup := by decide +kernel
theorem ndT2' : (["_law_k", "_law_kept", "_law_second"] : List Str).Nodup := by decide +kernel
abbrev teIx (K : PySem.W.Frag) : TE := tBM K "list" rIndexL (tVar 1) (tCons (tOp (rIx K) (tVar 2) (tVar 0)) tNil)
theorem compIx {K : PySem.W.Frag} {Hc : Hp} {pm px : Addr} {x S : List Nat} {n : Nat} {Q : VK} {σ : St} {pull : List Nat} (h2 : σ[5]? = some (some (.ref pm))) (hb : bst 1 pull σ = [none, some (.ref pm), some (.ref px)])
    (hx : RowAt K Hc px x) (hS : Hc pm = some (.lst (nv S))) (rx : Row n x) (hn : S.length ≤ 36) (hc : ∀ y ∈ S, y < n ∧ nx x y ∈ S)
    (k : ∀ (H' : Hp) (d : Addr), Same Hc H' → H' d = some (.lst (nv (among x S))) → Q (.ref d) H') :
    tComp (iList K (tVar 5)) 1 pull (gName 0) (teIx K) σ Hc Q := by
  refine ⟨_, h2, pm, rfl, ⟨_, SqL.of hS⟩, fun d hd => ?_⟩
  rw [hb]
  refine comp_by (Q := fun d H' => Q (.ref d) H') S.length (nv (among x S)) (by rw [nv_len, among_len]) (fun i σ H3 => ∃ o, σ = [o, some (.ref pm), some (.ref px)] ∧ Same Hc H3) ⟨_, rfl, same_upd (Same.refl _) hd⟩ ?_ ?_
  · rintro i σ H3 hi ⟨o, rfl, s3⟩ hd3
    have hS3 := SqL.of (K := K) (s3 _ _ hS)
    refine ⟨⟨_, _, hS3, nv_get (List.getElem?_eq_getElem hi)⟩, fun y H4 ⟨e, hy⟩ => ?_⟩
    subst e
    have hy := hy _ hS3
    rw [nv_get (List.getElem?_eq_getElem hi)] at hy
    cases hy
    have hm : S[i] ∈ S := List.getElem_mem hi
    refine ⟨_, rfl, .inl ⟨rfl, _, hS3⟩, _, rfl, _, rfl, rowIx (hx.same s3) rx (hc _ hm).1 ?_⟩
    refine ⟨pm, S, _, rfl, rfl, s3 _ _ hS, (hc _ hm).2, ?_⟩
    refine cpost hi (by omega) hd3 (nv_get ?_) ⟨_, rfl, same_upd s3 hd⟩
    unfold among
    rw [List.getElem?_map, List.getElem?_eq_getElem hi]
    rfl
  · rintro σ H3 ⟨o, rfl, s3⟩ hd3
    exact ⟨⟨_, SqL.of (s3 _ _ hS), by rw [nv_len]; exact Nat.le_refl _⟩, k H3 d s3 hd3⟩
theorem ok_tog {f : Addr} {fd : FuncData} (T : Bi mg) (F : Fn K mg "_law_together" sLTogether ["_law_first", "_law_second"] f fd) : FnOk P w K mg base CX0 1 f fd ["_law_first", "_law_second"] (spTog K) := by
  refine F.F.ok scTog (fun vs H Q E h => ?_) (fun cdv A outer s H vs Q E hr h => ?_)
  · obtain ⟨pr, pu, n, r, u, rfl, _⟩ := h; rfl
  · obtain ⟨pr, pu, n, r, u, rfl, hR, hU, rr, ru, h1, hn, k⟩ := h
    refine ⟨_, pss_cons (ps_set (i := 2) scTog.nd rfl (Or.inl rfl) (pe_lst (pa_cons pe_int pa_nil)))
      (pss_cons (ps_set (i := 3) scTog.nd rfl (Or.inl rfl) pe_int)
      (pss_cons (ps_while PassesOwn.never (pt_cmpR op_lt (pv 3) (pe_callB call_len_seq (by rfl) T.len PySem.boot_len (pa_cons (pv 2) pa_nil)) (nomark _))
        (pss_cons (ps_for PassesOwn.never rfl (pi_tup (pe_tup (pa_cons (pv 0) (pa_cons (pv 1) pa_nil)))) (pg_name (i := 4) scTog.nd rfl (Or.inl rfl))
          (pss_one (ps_if (pt_cmpR op_notIn_seq (pe_ix ix_seq (pv 4) (pe_ix ix_list (pv 2) (pv 3) (fun _ _ => rfl)) (fun _ _ => rfl)) (pv 2) rfl) (pss_one (ps_expr (pe_bm PySem.F.plainAttrs_list PySem.F.slot_list_append PySem.F.type_list_append mt_append (pv 2) (pa_cons (pe_ix ix_seq (pv 4) (pe_ix ix_list (pv 2) (pv 3) (fun _ _ => rfl)) (fun _ _ => rfl)) pa_nil)))) pss_nil)))
        (pss_one (ps_set (i := 3) scTog.nd rfl (Or.inl rfl) (pe_op op_add (pv 3) pe_int)))))
      (pss_cons (ps_set (i := 5) scTog.nd rfl (Or.inr rfl) (pe_callB (call_sorted rfl) rfl T.sorted boot_sorted (pa_cons (pv 2) pa_nil)))
      (pss_one (ps_ret (pe_tup (pa_cons (pe_callTy call_tuple_of rfl T.tuple boot_tuple (pa_cons
        (pe_comp (N := nTog) (names := (defScope sLTogether).names) (N' := ["_law_k", "_law_kept", "_law_first"]) (k := 1) (pull := [5, 0]) (te := teIx K) rfl
          ⟨by rfl, by decide +kernel, by decide +kernel, by rfl, by decide +kernel, by decide +kernel⟩ rfl rfl (pi_list (pv 5)) (fun _ _ _ _ _ _ => pg_name (i := 0) ndT1' rfl (Or.inl rfl)) (fun _ _ _ _ _ _ => pe_bm PySem.F.plainAttrs_list PySem.F.slot_list_index PySem.F.type_list_index mt_indexL (pv 1) (pa_cons (pe_ix ix_seq (pv 2) (pv 0) (fun _ _ => rfl)) pa_nil))) pa_nil))
        (pa_cons (pe_callTy call_tuple_of rfl T.tuple boot_tuple (pa_cons
        (pe_comp (N := nTog) (names := (defScope sLTogether).names) (N' := ["_law_k", "_law_kept", "_law_second"]) (k := 1) (pull := [5, 1]) (te := teIx K) rfl
          ⟨by rfl, by decide +kernel, by decide +kernel, by rfl, by decide +kernel, by decide +kernel⟩ rfl rfl (pi_list (pv 5)) (fun _ _ _ _ _ _ => pg_name (i := 0) ndT2' rfl (Or.inl rfl)) (fun _ _ _ _ _ _ => pe_bm PySem.F.plainAttrs_list PySem.F.slot_list_index PySem.F.type_list_index mt_indexL (pv 1) (pa_cons (pe_ix ix_seq (pv 2) (pv 0) (fun _ _ => rfl)) pa_nil))) pa_nil)) pa_nil)))))))), ?_⟩
    refine ⟨(by show 1 ≤ sizeLine; decide), fun l hl => ?_⟩
    refine while_by (fun σ H2 => ∃ (M : List Nat) (k : Nat) (o4 : Option V), σ = [some (.ref pr), some (.ref pu), some (.ref l), some (.int (k : Int)), o4, none] ∧ Same H H2 ∧ H2 l = some (.lst (nv M)) ∧ Met n r u 0 M k) (fun σ _ => mu 3 σ) ?_ ?_ ?_
    · exact ⟨[0], 0, _, rfl, same_upd (Same.refl H) hl, upd_same, Met.start h1⟩
    · rintro σ H2 ⟨M, kk, o4, rfl, s2, h2l, hM⟩
      refine ⟨_, rfl, _, rfl, l, _, rfl, .inl (SqL.of h2l), _, _, rfl, rfl, _, rfl, ?_⟩
      rw [nv_len]
      refine ite2 (fun hlt => ?_) (fun hge => ?_)
      · have hlt : (kk : Int) < (M.length : Int) := of_decide_eq_true hlt
        have hk : kk < M.length := by omega
        have hx : M[kk]? = some M[kk] := List.getElem?_eq_getElem hk
        have hxn : M[kk] < n := hM.lt _ (List.getElem_mem hk)
        have hMl := hM.len
        refine ⟨_, rfl, _, rfl, (by show 2 ≤ sizeLine; decide), fun tp htp => ⟨tp, rfl, ⟨_, SqT.of upd_same⟩, ?_⟩⟩
        have nlt : l ≠ tp := ne_of_none h2l htp
        refine for_tup (K := K) (a := tp) (xs := [.ref pr, .ref pu]) (fun i σ H3 => ∃ (o4 : Option V), σ = [some (.ref pr), some (.ref pu), some (.ref l), some (.int (kk : Int)), o4, none] ∧ Same H H3 ∧ H3 tp = some (.tup [.ref pr, .ref pu]) ∧
          H3 l = some (.lst (nv (([nx r M[kk], nx u M[kk]].take i).foldl put M)))) ?_ ?_ ?_ ?_
        · refine ⟨_, rfl, same_upd s2 (s2.free htp), upd_same, by rw [upd_ne nlt]; exact h2l⟩
        · rintro i σ H3 hi ⟨_, _, _, h3, _⟩
          exact SqT.of h3
        · rintro i x σ H3 hi ⟨o4, rfl, s3, h3, h3l⟩
          obtain ⟨b, row, rfl, hrow, rrow, ey⟩ : ∃ b row, x = V.ref b ∧ RowAt K H b row ∧ Row n row ∧ [nx r M[kk], nx u M[kk]][i]? = some (nx row M[kk]) := by
            match i, hi with
            | 0, hi => cases hi; exact ⟨pr, r, rfl, hR, rr, rfl⟩
            | 1, hi => cases hi; exact ⟨pu, u, rfl, hU, ru, rfl⟩
            | i + 2, hi => cases hi
          have hlen := foldl_put_len ([nx r M[kk], nx u M[kk]].take i) M
          have htk : ([nx r M[kk], nx u M[kk]].take i).length ≤ 2 := by rw [List.length_take]; exact Nat.min_le_right _ _
          have hfold : ([nx r M[kk], nx u M[kk]].take (i + 1)).foldl put M = put (([nx r M[kk], nx u M[kk]].take i).foldl put M) (nx row M[kk]) := by
            rw [List.take_add_one, ey, List.foldl_append]; rfl
          rw [hfold]
          have hget : (([nx r M[kk], nx u M[kk]].take i).foldl put M)[kk]? = some M[kk] := by
            have : ∀ (l M' : List Nat), M'[kk]? = some M[kk] → (l.foldl put M')[kk]? = some M[kk] := by
              intro l
              induction l with
              | nil => intro M' h; exact h
              | cons a l ih => intro M' h; exact ih _ (put_get h)
            exact this _ _ hx
          generalize hM' : ([nx r M[kk], nx u M[kk]].take i).foldl put M = M' at h3l hlen hget
          refine ⟨_, rfl, _, rfl, _, rfl, l, _, _, _, rfl, rfl, SqL.of h3l, atI_nat (nv_get hget), rowIx (hrow.same s3) rrow hxn ?_⟩
          refine ⟨_, rfl, l, _, rfl, .inl (SqL.of h3l), rfl, nv_flat _, _, rfl, ?_⟩
          show (if (!inV (.int ((nx row M[kk] : Nat) : Int)) (nv M')) = true then _ else _)
          rw [inV_nv]
          by_cases hy : nx row M[kk] ∈ M'
          · rw [decide_eq_true hy]
            refine iteF ?_
            refine ⟨_, rfl, s3, h3, ?_⟩
            unfold put; rw [if_pos hy]; exact h3l
          · rw [decide_eq_false hy]
            refine iteT ?_
            refine ⟨_, rfl, .inl ⟨rfl, _, SqL.of h3l⟩, _, rfl, _, rfl, _, rfl, l, _, _, _, rfl, rfl, SqL.of h3l, atI_nat (nv_get hget), rowIx (hrow.same s3) rrow hxn ?_⟩
            refine ⟨l, _, _, rfl, rfl, h3l, ?_, ?_⟩
            · rw [nv_len]; exact small1000 (by omega)
            refine ⟨_, rfl, same_upd s3 hl, by rw [upd_ne nlt.symm]; exact h3, ?_⟩
            unfold put; rw [if_neg hy, upd_same, nv_snoc]
        · rintro σ H3 ⟨o4, rfl, s3, h3, h3l⟩
          refine ⟨_, rfl, _, _, rfl, rfl, ⟨_, kk + 1, _, rfl, s3, h3l, hM.step rr ru hx⟩, ?_⟩
          show (100 - ((kk : Int) + 1)).toNat < (100 - (kk : Int)).toNat
          omega
      · have hge : ¬ (kk : Int) < (M.length : Int) := fun z => hge (decide_eq_true z)
        have hA := hM.all (by omega)
        have hMl : M.length ≤ n := by
          have := sub_len M (List.range n) hA.nd fun x hx => List.mem_range.mpr (hA.lt x hx)
          simpa using this
        refine ⟨_, rfl, l, M, rfl, .inl (SqL.of h2l), by omega, fun l2 S hl2 pS sS => ?_⟩
        have hS' := hA.perm pS
        have hSl : S.length ≤ n := by rw [pS.length_eq]; exact hMl
        have s3 : Same H (upd H2 l2 (.lst (nv S))) := same_upd s2 (s2.free hl2)
        have h3S : (upd H2 l2 (.lst (nv S))) l2 = some (.lst (nv S)) := upd_same
        revert s3 h3S
        generalize (upd H2 l2 (.lst (nv S))) = H3
        intro s3 h3S
        dsimp only [tSeq, tAsg, tCB, tCons, gName, tRet, tTup]
        refine compIx rfl rfl (hR.same s3) h3S rr (by omega) (fun y hy => ⟨hS'.lt y hy, (hS'.shut y hy).1⟩) ?_
        intro H4 d4 s4 h4
        refine ⟨d4, _, rfl, .inl ⟨SqL.of h4, fun t1 ht1 => ?_⟩⟩
        have s4' : Same H3 (upd H4 t1 (.tup (nv (among r S)))) := same_upd s4 (s4.free ht1)
        have s5 : Same H (upd H4 t1 (.tup (nv (among r S)))) := s3.trans s4'
        refine compIx rfl rfl (hU.same s5) (s4' _ _ h3S) ru (by omega) (fun y hy => ⟨hS'.lt y hy, (hS'.shut y hy).2⟩) ?_
        intro H5 d5 s6 h5
        refine ⟨d5, _, rfl, .inl ⟨SqL.of h5, fun t2 ht2 => ?_⟩⟩
        have s7 : Same (upd H4 t1 (.tup (nv (among r S)))) (upd H5 t2 (.tup (nv (among u S)))) := same_upd s6 (s6.free ht2)
        refine ⟨by show 2 ≤ sizeLine; decide, fun a ha => k _ a S.length _ _ ?_ ⟨t1, t2, upd_same, ?_, ?_⟩ (among_sheet hn rr ru hS' sS) hSl⟩
        · exact same_upd (s5.trans s7) ((s5.trans s7).free ha)
        · have e1 := s7 t1 _ upd_same
          rw [upd_ne (ne_of_none e1 ha)]; exact e1
        · have e2 : (upd H5 t2 (.tup (nv (among u S)))) t2 = some (.tup (nv (among u S))) := upd_same
          rw [upd_ne (ne_of_none e2 ha)]; exact e2
    · rintro σ H Q Q' h ⟨v, e1, v', e2, p, ys, e3, sq, i, j, e4, e5, k, e6, q⟩
      exact ⟨v, e1, v', e2, p, ys, e3, sq, i, j, e4, e5, k, e6, h _ _ q⟩
end
end K1
namespace K1
open PySem L2 Sq
def spSheetA (K : PySem.W.Frag) : Sp := fun vs H Q _ => ∃ (a : Addr) (ns : List Int) (j : Int) (n : Nat), vs = [.ref a, .int j, .int (n : Int)] ∧ SqL K H a (ns.map V.int) ∧ 0 ≤ j ∧ j < 800000 ∧ 1 ≤ n ∧ n ≤ 36 ∧
  ∀ (H' : Hp) (b : Addr) (m : Nat) (r u : List Nat), Same H H' → ShAt H' b r u → Sheet m r u → m ≤ n → Q (.ref b) H'
section
variable {P : Program} {w : World} {K : PySem.W.Frag} {mg : Str → Option Value} {base : Heap}
theorem scSheet : FnScope ["_law_script", "_law_at", "_law_many"] ["_law_script", "_law_at", "_law_many"] (defScope sSheet) := ⟨rfl, rfl, rfl, by decide +kernel, rfl, by decide +kernel, by decide +kernel⟩
theorem ok_sheetA {f fw ft : Addr} {fd fdw fdt : FuncData} (F : Fn K mg "_law_sheet" sSheet ["_law_script", "_law_at", "_law_many"] f fd)
    (FW : Fn K mg "_law_row" sLRow ["_law_script", "_law_at", "_law_many"] fw fdw) (GW : FnOk P w K mg base CX0 2 fw fdw ["_law_script", "_law_at", "_law_many"] (spRow K))
    (FT : Fn K mg "_law_together" sLTogether ["_law_first", "_law_second"] ft fdt) (GT : FnOk P w K mg base CX0 1 ft fdt ["_law_first", "_law_second"] (spTog K)) :
    FnOk P w K mg base CX0 3 f fd ["_law_script", "_law_at", "_law_many"] (spSheetA K) := by
  refine F.F.ok scSheet (fun vs H Q E h => ?_) (fun cdv A outer s H vs Q E hr h => ?_)
  · obtain ⟨a, ns, j, n, rfl, _⟩ := h; rfl
  · obtain ⟨a, ns, j, n, rfl, hS, h0, h1, hn1, hn, k⟩ := h
    have hr1 : Room 1 _ := hr.mono (by decide)
    refine ⟨_, pss_one (ps_ret (pe_call GT hr1 rfl FT.m FT.F.kp FT.b .nil pass0 (pa_cons (pe_call GW hr rfl FW.m FW.F.kp FW.b .nil pass0 (pa_cons (pv 0) (pa_cons (pv 1) (pa_cons (pv 2) pa_nil))))
      (pa_cons (pe_call GW hr rfl FW.m FW.F.kp FW.b .nil pass0 (pa_cons (pv 0) (pa_cons (pe_op op_add (pv 1) (pv 2)) (pa_cons (pv 2) pa_nil)))) pa_nil)))), ?_⟩
    refine ⟨_, rfl, _, rfl, _, rfl, a, ns, j, n, rfl, hS, h0, by omega, hn, fun H1 p r s1 _ hp rr => ?_⟩
    refine ⟨_, rfl, _, rfl, _, rfl, _, _, rfl, rfl, _, rfl, a, ns, _, n, rfl, s1.seq hS, by omega, by omega, hn, fun H2 q u s2 _ hq ru => ?_⟩
    exact ⟨p, q, n, r, u, rfl, .inl (SqL.of (s2 _ _ hp)), .inl (SqL.of hq), rr, ru, hn1, hn, fun H3 b m r' u' s3 hb hSh hm => k H3 b m r' u' (s1.trans (s2.trans s3)) hb hSh hm⟩
end
end K1
namespace K1
open PySem L2 Sq
theorem fnd_of {n : Nat} {x : PS2} {k : Nat} (s : Sheet n x.1 x.2) (h : (cl n x k).length ≤ k) (g : Gd n (cl n x k)) (w : Wd7 k (cl n x k)) (hk : k ≤ 190) : Fnd71 n x (cl n x k) :=
  ⟨cl_head n x k, Nat.le_trans h hk, g.nd, fun e he => ⟨Nat.le_trans (w e he).1 hk, (w e he).2, (g.can e he).sh, cl_word s k e he⟩, fun e he c hc => cl_closed h he hc⟩
theorem eqvAll_sd : ∀ L : Tl, PyData.eqvAll (L.map fun e => sd e.1.1 e.1.2) (L.map fun e => sd e.1.1 e.1.2) = true
  | [] => rfl
  | e :: L => by
    show (PyData.eqv (sd e.1.1 e.1.2) (sd e.1.1 e.1.2) && PyData.eqvAll (L.map fun e => sd e.1.1 e.1.2) (L.map fun e => sd e.1.1 e.1.2)) = true
    rw [eqvAll_sd L, sd_eqv]; simp
theorem depAll_sd : ∀ L : Tl, PyData.depthAll (L.map fun e => sd e.1.1 e.1.2) ≤ 20
  | [] => by decide
  | e :: L => by
    show max (sd e.1.1 e.1.2).depth (PyData.depthAll (L.map fun e => sd e.1.1 e.1.2)) ≤ 20
    have := depAll_sd L
    have := sd_dep e.1.1 e.1.2
    omega
theorem cut_ints7 (fs : List Int) (lo hi : Option Int) : ∃ gs : List Int, cutV (fs.map V.int) lo hi = gs.map V.int := by
  unfold cutV
  exact ⟨(fs.drop (HT.sIx (fs.map V.int).length 0 lo)).take (HT.sIx (fs.map V.int).length (fs.map V.int).length hi - HT.sIx (fs.map V.int).length 0 lo), by rw [List.map_take, List.map_drop]⟩
def spLaw (K : PySem.W.Frag) : Sp := fun vs H Q _ => ∃ (a : Addr) (ns : List Int), vs = [.ref a] ∧ SqL K H a (ns.map V.int) ∧ ∀ H' : Hp, Q (.bl true) H'
section
variable {P : Program} {w : World} {K : PySem.W.Frag} {mg : Str → Option Value} {base : Heap}
abbrev n_law : List Str := ["_law_script", "_law_cell_here", "_law_many", "_law_sheet_here", "_law_found", "_law_have", "_law_now", "_law_one", "_law_again"]
theorem sc_law : FnScope n_law ["_law_script"] (defScope sLaw) := ⟨rfl, rfl, rfl, by decide +kernel, rfl, by decide +kernel, by decide +kernel⟩
theorem nd_law : (["_law_there", "_law_word"] : List Str).Nodup := by decide +kernel
theorem nd_law1 : (["_law_there", "_law_word"] : List Str).Nodup := by decide +kernel
set_option maxHeartbeats 1000000 in
theorem ok_law {f fc fs fr fp fl fm ff : Addr} {fd dc ds dr dp dl dm df : FuncData} {CT : Addr} (T : Bi mg) (F : Fn K mg "law" sLaw ["_law_script"] f fd) (FC : Fn K mg "_law_cell" sCell ["_law_script", "_law_k"] fc dc) (GC : FnOk P w K mg base CX0 1 fc dc ["_law_script", "_law_k"] (spCellA K))
    (FS : Fn K mg "_law_sheet" sSheet ["_law_script", "_law_at", "_law_many"] fs ds) (GS : FnOk P w K mg base CX0 3 fs ds ["_law_script", "_law_at", "_law_many"] (spSheetA K))
    (FR : Fn K mg "reached" sReached ["sheet", "most"] fr dr) (GR : FnOk P w K mg base (CX1 P w) 8 fr dr ["sheet", "most"] (spRe71 P w CT))
    (FP : Fn K mg "_law_pairs" sLPairs ["_law_found"] fp dp) (GP : FnOk P w K mg base CX0 1 fp dp ["_law_found"] spPa71)
    (FL : Fn K mg "_law_closed" sLClosed ["_law_sheet_here", "_law_found"] fl dl) (GL : FnOk P w K mg base CX0 4 fl dl ["_law_sheet_here", "_law_found"] spCl71)
    (FM : Fn K mg "_law_moved" sLMoved ["_law_sheet_here", "_law_letter"] fm dm) (GM : FnOk P w K mg base CX0 2 fm dm ["_law_sheet_here", "_law_letter"] spLm)
    (FF : Fn K mg "_law_form" sLForm ["_law_sheet_here"] ff df) (GF : FnOk P w K mg base CX0 3 ff df ["_law_sheet_here"] spLf) : FnOk P w K mg base CX0 9 f fd ["_law_script"] (spLaw K) := by
  refine F.F.ok sc_law (fun vs H Q E h => ?_) (fun cdv A outer s H vs Q E hr h => ?_)
  · obtain ⟨a, ns, rfl, _⟩ := h; rfl
  · obtain ⟨a, ns, rfl, hS, k⟩ := h
    have hr1 : Room 1 _ := hr.mono (by decide)
    have hr2 : Room 2 _ := hr.mono (by decide)
    have hr3 : Room 3 _ := hr.mono (by decide)
    have hr4 : Room 4 _ := hr.mono (by decide)
    have hr8 : Room 8 _ := hr.mono (by decide)
    refine ⟨_, (pss_cons (ps_set (i := 1) sc_law.nd rfl (Or.inl rfl) (pe_call GC hr1 rfl FC.m FC.F.kp FC.b .nil pass0 (pa_cons (pv 0) (pa_cons pe_int pa_nil))))
      (pss_cons (ps_set (i := 2) sc_law.nd rfl (Or.inl rfl) (pe_op op_add pe_int (pe_op op_mod (pv 1) pe_int)))
      (pss_cons (ps_if (pt_cmpR op_eq (pe_op op_mod (pe_op op_fdiv (pv 1) pe_int) pe_int) pe_int (nomark _)) (pss_one (ps_set (i := 2) sc_law.nd rfl (Or.inl rfl) pe_int)) pss_nil)
      (pss_cons (ps_set (i := 3) sc_law.nd rfl (Or.inl rfl) (pe_call GS hr3 rfl FS.m FS.F.kp FS.b .nil pass0 (pa_cons (pv 0) (pa_cons pe_int (pa_cons (pv 2) pa_nil)))))
      (pss_cons (ps_set (i := 4) sc_law.nd rfl (Or.inl rfl) (pe_call GR hr8 rfl FR.m FR.F.kp FR.b .nil passE0 (pa_cons (pv 3) (pa_cons pe_int pa_nil))))
      (pss_cons (ps_if (PW.pt (pw_or (pt_not (pt_val (pe_call GP hr1 rfl FP.m FP.F.kp FP.b .nil pass0 (pa_cons (pv 4) pa_nil)))) (pw_or1 (pt_not (pt_val (pe_call GL hr4 rfl FL.m FL.F.kp FL.b .nil pass0 (pa_cons (pv 3) (pa_cons (pv 4) pa_nil)))))))) (pss_one (ps_ret pe_bl)) pss_nil)
      (pss_cons (ps_comp (j := 5) (N := n_law) (names := (defScope sLaw).names) (N' := ["_law_there", "_law_word"]) (k := 2) (pull := []) (g := gTup K 2 (gCons (gName 0) (gCons (gName 1) gNil))) (te := (tVar 0)) rfl sc_law.nd rfl rfl ⟨by rfl, by decide +kernel, by decide +kernel, by rfl, by decide +kernel, by decide +kernel⟩ rfl rfl (pi_list (pv 4)) (fun _ _ _ _ _ _ => pg_tup rfl (pgs_cons (pg_name (i := 0) nd_law1 rfl (Or.inl rfl)) (pgs_cons (pg_name (i := 1) nd_law1 rfl (Or.inl rfl)) pgs_nil))) (fun _ _ _ _ _ _ => (pv 0)))
      (pss_cons (ps_set (i := 6) sc_law.nd rfl (Or.inl rfl) (pv 3))
      (pss_cons (ps_for PassesOwn.never rfl (pi_list (pe_slice sl_list (pv 0) (po_some pe_int) (po_some pe_int))) (pg_name (i := 7) sc_law.nd rfl (Or.inl rfl)) (pss_cons (ps_set (i := 6) sc_law.nd rfl (Or.inl rfl) (pe_call GM hr2 rfl FM.m FM.F.kp FM.b .nil pass0 (pa_cons (pv 6) (pa_cons (pe_ix ix_str pe_str (pe_op op_mod (pv 7) pe_int) (fun _ _ => rfl)) pa_nil))))
      (pss_one (ps_if (pt_cmpR op_notInD (pe_call GF hr3 rfl FF.m FF.F.kp FF.b .nil pass0 (pa_cons (pv 6) pa_nil)) (pv 5) (by with_unfolding_all rfl)) (pss_one (ps_ret pe_bl)) pss_nil))))
      (pss_cons (ps_expr (pe_bm0 PySem.F.plainAttrs_list PySem.F.slot_list_clear PySem.F.type_list_clear mt_clear (pv 4)))
      (pss_cons (ps_set (i := 8) sc_law.nd rfl (Or.inl rfl) (pe_call GR hr8 rfl FR.m FR.F.kp FR.b .nil passE0 (pa_cons (pv 3) (pa_cons pe_int pa_nil))))
      (pss_one (ps_ret (pe_and (pe_call GP hr1 rfl FP.m FP.F.kp FP.b .nil pass0 (pa_cons (pv 8) pa_nil)) (pe_one (pe_cmpR op_eqD (pe_comp (N := n_law) (names := (defScope sLaw).names) (N' := ["_law_there", "_law_word"]) (k := 2) (pull := []) (g := gTup K 2 (gCons (gName 0) (gCons (gName 1) gNil))) (te := (tVar 0)) rfl ⟨by rfl, by decide +kernel, by decide +kernel, by rfl, by decide +kernel, by decide +kernel⟩ rfl rfl (pi_list (pv 8)) (fun _ _ _ _ _ _ => pg_tup rfl (pgs_cons (pg_name (i := 0) nd_law rfl (Or.inl rfl)) (pgs_cons (pg_name (i := 1) nd_law rfl (Or.inl rfl)) pgs_nil))) (fun _ _ _ _ _ _ => (pv 0))) (pv 5) (nomark _))))))))))))))))), ?_⟩
    have hu : ∀ {A : Around} {k : Nat}, Room k A → A.units + 20 < cLine := fun {A k} hr => by have := hr.un; omega
    refine ⟨_, rfl, a, ns, 0, rfl, hS, by decide, by decide, fun z => ?_⟩
    refine ⟨_, rfl, _, _, rfl, rfl, (by show (0 : Int) < 4; decide), _, _, rfl, rfl, ?_⟩
    refine ⟨_, rfl, _, _, rfl, rfl, ⟨by decide, by decide⟩, _, _, rfl, rfl, (by show (0 : Int) < 4; decide), rfl, _, rfl, ?_⟩
    obtain ⟨n0, hn0⟩ : ∃ n : Nat, 1 + z % 4 = (n : Int) := ⟨(1 + z % 4).toNat, by omega⟩
    refine ite_rest (fun σ H1 => ∃ n : Nat, σ = [some (.ref a), some (.int z), some (.int (n : Int)), none, none, none, none, none, none] ∧ H1 = H ∧ 1 ≤ n ∧ n ≤ 5) ⟨n0, by rw [← hn0]; rfl, rfl, by omega, by omega⟩ ?_ (fun rest _ => rest _ _ ⟨5, rfl, rfl, by omega, by omega⟩)
    rintro σ H1 ⟨n1, rfl, rfl, hn1, hn5⟩
    refine ⟨_, rfl, _, rfl, a, ns, 1, n1, rfl, hS, by decide, by decide, hn1, by omega, fun H1 b n r u s1 hb hSh hm => ?_⟩
    have h5 : n ≤ 5 := by omega
    refine ⟨_, rfl, ?_⟩
    dsimp only [tCons, tC, tNil, List.append_nil, List.nil_append, List.cons_append]
    refine re71 hb hSh h5 fun H2 t kk s2 hend g2 w2 hk9 t2 => ?_
    have hF := fnd_of (x := (r, u)) hSh hend g2 w2 hk9
    have hall := fun z hz => word_in (x := (r, u)) hSh hend z hz
    have hsame := fun j (hj : (cl n (r, u) j).length ≤ j) => cl_end hend hj
    generalize hLc : cl n (r, u) kk = L at *
    have hL9 : L.length ≤ 190 := hF.2.1
    have hb2 := hb.same s2
    refine ⟨_, rfl, t, L, rfl, t2, _, rfl, iteF ?_⟩
    refine ⟨_, rfl, _, rfl, b, t, n, r, u, L, rfl, hb2, hSh, t2, hF, fun H3 s3 => ⟨_, rfl, iteF ?_⟩⟩
    have t3 := t2.same s3
    dsimp only [tNext, tSeq, tAsg]
    refine compTh71 (fun R hR => ⟨_, rfl, hR⟩) t3 (by omega) fun H4 d ps bs s4 hd0 h1 h2 g1 g2' hd => ?_
    have hb4 := hb2.same (s3.trans s4)
    have hsc4 : SqL K H4 a (ns.map V.int) := (s1.trans (s2.trans (s3.trans s4))).seq hS
    have ht4 := s4 _ _ h1
    have hdt : d ≠ t := fun e => by rw [e, h1] at hd0; cases hd0
    have h34 : ∀ (i : Nat) (b : Addr) (e : PS2 × List Nat), bs[i]? = some b → L[i]? = some e → ShAt H4 b e.1.1 e.1.2 := fun i b e x y => by
      have hi := (List.getElem?_eq_some_iff.mp y).1
      exact (g2' i _ b e (List.getElem?_eq_getElem (by omega)) x y).2.same s4
    clear g2' t3 t2 s3 s2 s1 w2 g2 hb hb2 h1
    refine ⟨_, rfl, ?_⟩
    refine ⟨_, rfl, _, rfl, _, rfl, a, _, rfl, hsc4, fun q hq => ?_⟩
    obtain ⟨gs, eg⟩ := cut_ints7 ns (some 11) (some 63)
    rw [eg]
    have s5 := same_upd (o := .lst (gs.map V.int)) (Same.refl H4) hq
    have hl : (upd H4 q (.lst (gs.map V.int))) q = some (.lst (gs.map V.int)) := upd_same
    generalize upd H4 q (.lst (gs.map V.int)) = H5 at s5 hl
    refine ⟨q, rfl, ⟨_, SqL.of hl⟩, ?_⟩
    refine for_list (xs := gs.map V.int) (fun i σ H6 => ∃ (w : Addr) (o7 : Option V) (z' : List Nat), σ = [some (.ref a), some (.int z), some (.int (n1 : Int)), some (.ref b), some (.ref t), some (.ref d), some (.ref w), o7, none] ∧ Same H5 H6 ∧ (∀ c ∈ z', c = 115 ∨ c = 116) ∧ ShAt H6 w (mvw n z' (r, u)).1 (mvw n z' (r, u)).2) ⟨b, _, [], rfl, Same.refl _, (fun c hc => nomatch hc), hb4.same s5⟩ (fun i σ H6 _ ⟨_, _, _, _, s6, _⟩ => SqL.of (s6 _ _ hl)) ?_ ?_
    · rintro i x σ H6 hx ⟨w, o7, z', rfl, s6, hz, hw⟩
      obtain ⟨y, rfl⟩ : ∃ y : Int, x = .int y := by
        rw [List.getElem?_map] at hx
        cases hg : gs[i]? with
        | none => rw [hg] at hx; cases hx
        | some y => rw [hg] at hx; exact ⟨y, (Option.some.inj hx).symm⟩
      have hSn := mvw_sheet z' (x := (r, u)) hSh
      have two2 : y % 2 = 0 ∨ y % 2 = 1 := by omega
      have hc : ∃ c : Nat, (c = 115 ∨ c = 116) ∧ atI (Str.ofString "st").cps.toList (y % 2) = some c := by
        rcases two2 with e | e <;> rw [e]
        · exact ⟨115, .inl rfl, by decide +kernel⟩
        · exact ⟨116, .inr rfl, by decide +kernel⟩
      obtain ⟨c, hst, hat⟩ := hc
      refine ⟨_, rfl, _, rfl, _, _, rfl, rfl, (by show (0 : Int) < 2; decide), _, _, _, rfl, rfl, by decide +kernel, hat, ?_⟩
      refine ⟨w, c, n, _, _, rfl, hw, hSn.row, hSn.col, hSn.most, fun H7 b7 s7 hb7 => ?_⟩
      have hz2 : ∀ d ∈ z' ++ [c], d = 115 ∨ d = 116 := fun d hd => (List.mem_append.mp hd).elim (hz d) fun h => by rw [List.mem_singleton.mp h]; exact hst
      have hb7 : ShAt H7 b7 (mvw n (z' ++ [c]) (r, u)).1 (mvw n (z' ++ [c]) (r, u)).2 := by rw [mvw_snoc]; exact hb7
      have hS7 := mvw_sheet (z' ++ [c]) (x := (r, u)) hSh
      have hin := hall (z' ++ [c]) hz2
      have fin : ∀ H8, Same H7 H8 → ShAt H8 b7 (mvw n (z' ++ [c]) (r, u)).1 (mvw n (z' ++ [c]) (r, u)).2 := fun H8 s8 => hb7.same s8
      generalize hyy : mvw n (z' ++ [c]) (r, u) = yy at *
      refine ⟨_, rfl, b7, n, _, _, rfl, hb7, hS7, fun H8 x8 b8 hx8 hL8 s8 hb8 => ?_⟩
      have hb8 := isfo_at hS7 hx8 hL8 hb8
      have s48 := s5.trans (s6.trans (s7.trans s8))
      generalize fo n yy = F8 at *
      refine ⟨_, rfl, d, _, _, _, rfl, SqL.of (s48 _ _ hd), hb8.dt, dtAll_sh g1 (fun i b e x y => (h34 i b e x y).same s48), sd_lay _ _, layAll_sd L, sd_dep _ _, hu hr, _, rfl, ?_⟩
      rw [any_sd, hin]
      refine iteF ?_
      exact ⟨b7, _, z' ++ [c], rfl, s6.trans (s7.trans s8), hz2, by rw [hyy]; exact fin H8 s8⟩
    · rintro σ H6 ⟨w, o7, z', rfl, s6, hz, hw⟩
      have s46 := s5.trans s6
      have ht6 := s46 _ _ ht4
      refine ⟨_, rfl, .inl ⟨rfl, _, SqL.of ht6⟩, t, _, rfl, rfl, ht6, ?_⟩
      have hb7 : ShAt (upd H6 t (.lst [])) b r u := upd_sh ht6 (hb4.same s46)
      have hd7 : (upd H6 t (.lst [])) d = some (.lst (bs.map V.ref)) := by rw [upd_ne hdt]; exact s46 _ _ hd
      have h37 : ∀ (i : Nat) (b : Addr) (e : PS2 × List Nat), bs[i]? = some b → L[i]? = some e → ShAt (upd H6 t (.lst [])) b e.1.1 e.1.2 := fun i b e x y => upd_sh ht6 ((h34 i b e x y).same s46)
      generalize upd H6 t (.lst []) = H7 at hb7 hd7 h37
      refine ⟨_, rfl, ?_⟩
      dsimp only [tCons, tC, tNil, List.append_nil, List.nil_append, List.cons_append]
      refine re71 hb7 hSh h5 fun H8 t8 k8 s8 hend8 g8 w8 _ t8' => ?_
      rw [← hsame k8 hend8] at t8'
      refine ⟨_, rfl, t8, L, rfl, t8', _, rfl, iteT ?_⟩
      refine compTh71 (fun R hR => ⟨_, rfl, hR⟩) t8' (by omega) fun H9 d9 ps9 bs9 s9 hd09 _ h29 g19 g29 hd9 => ?_
      have s79 := s8.trans s9
      refine ⟨_, rfl, .list (L.map fun (e : PS2 × List Nat) => sd e.1.1 e.1.2), .list (L.map fun (e : PS2 × List Nat) => sd e.1.1 e.1.2), .lst (SqL.of hd9) (dtAll_sh g19 fun i b e x y => ?_), .lst (SqL.of (s79 _ _ hd7)) (dtAll_sh g1 fun i b e x y => (h37 i b e x y).same s79), layAll_sd L, layAll_sd L, unitsD hr ?_, ?_⟩
      · have hi := (List.getElem?_eq_some_iff.mp y).1
        exact (g29 i _ b e (List.getElem?_eq_getElem (by omega)) x y).2.same s9
      · show PyData.depthAll _ + 1 ≤ 64
        have := depAll_sd L
        omega
      have e9 : PyData.eqv (.list (L.map fun (e : PS2 × List Nat) => sd e.1.1 e.1.2)) (.list (L.map fun (e : PS2 × List Nat) => sd e.1.1 e.1.2)) = true := eqvAll_sd L
      rw [e9]
      exact k H9
end
end K1
def PySem.W.Fast.tw11939231419994972643 : Nat := 0
def PySem.W.Fast.tw17867915747903605785 : Nat := 0
def PySem.W.Fast.tw4386614010019811027 : Nat := 0
def PySem.W.Fast.tw1710615885315662740 : Nat := 0
def PySem.W.Fast.tw4499592578351208765 : Nat := 0
def PySem.W.Fast.tw10377791160227614639 : Nat := 0
def PySem.W.Fast.tw9913273188721416010 : Nat := 0
def PySem.W.Fast.tw9186420996264730893 : Nat := 0
namespace K1
open PySem L2 Sq
/-- a def as the top has left it -/
def Raw (K : PySem.W.Frag) (x : Str) (st : Stmt) : Prop := ∃ f fd, Fun K x x st f fd ∧ PySem.W.nsIn K mainGlobals x = some (some (.ref f)) ∧ ∃ kV doc pm an cdv ct, fd = PySem.W.fnOf x x (defArgs st) (defBody st) (defScope st) .none kV doc pm an cdv ct
theorem raw_mk {K : PySem.W.Frag} {x : Str} {st : Stmt} {f : Addr} {oc : Value} {od an : Option Addr} {osl : Array (Option Value)} {kV doc pm cdv ct : Value} (a : PySem.W.nsIn K mainGlobals x = some (some (.ref f)))
    (l : K.lookup f = some ⟨oc, od, .func (PySem.W.fnOf x x (defArgs st) (defBody st) (defScope st) .none kV doc pm an cdv ct), osl⟩) (c : PySem.W.codeIn K cdv x = true) (k : PySem.W.keepIn K (.ref f) = true) : Raw K x st :=
  ⟨f, _, fun_mk l c k, a, kV, doc, pm, an, cdv, ct, rfl⟩
theorem Raw.fn {K : PySem.W.Frag} {h : Heap} {mg : Str → Option Value} {x : Str} {st : Stmt} {ps : List Str} (X : K.In h) (G : h.Ns mainGlobals mg) (R : Raw K x st)
    (b : ∀ (kV doc pm : Value) (an : Option Addr) (cdv ct : Value) (us : List Value), us.length = ps.length → bindArgs (PySem.W.fnOf x x (defArgs st) (defBody st) (defScope st) .none kV doc pm an cdv ct) ⟨us, []⟩ = pure (ps.zip us)) : ∃ f fd, Fn K mg x st ps f fd := by
  obtain ⟨f, fd, F, a, _⟩ := R
  exact ⟨f, fd, F, F.binds b, PySem.W.mg_of X G a⟩
set_option maxHeartbeats 0 in
theorem all_mk {l : PySem.W.OpenLaw} {w : World} {K : PySem.W.Frag} {h : Heap} {mg : Str → Option Value} {fa : Addr} {t_MOST_LETTERS : Tok} {a_LETTERS : Addr} {v0_LETTERS : Value} {v1_LETTERS : Value} {CN : Addr} {CR : Addr} {CW : Addr} {CS : Addr} {CT : Addr} (X : K.In h) (G : h.Ns mainGlobals mg) (hfa : mg "law" = some (.ref fa))
    (R_size : Raw K "size" sSize)
    (R_back_row : Raw K "back_row" sBackRow)
    (R_has_each_once : Raw K "has_each_once" sEach)
    (R_is_whole : Raw K "is_whole" sIsWhole)
    (R_is_square : Raw K "is_square" sIsSq)
    (R_need_square : Raw K "need_square" sNeed)
    (R_renumbered : Raw K "renumbered" sRenumbered)
    (R_numbering : Raw K "numbering" sNumbering)
    (R_is_renumbering : Raw K "is_renumbering" sIsRenumbering)
    (R_renumbered_row : Raw K "renumbered_row" sRenumberedRow)
    (R_form : Raw K "form" sForm)
    (R_form_with_numbering : Raw K "form_with_numbering" sFormWithNumbering)
    (R_need_word : Raw K "need_word" sNeedWord)
    (R_sheared : Raw K "sheared" sSheared)
    (R_turned : Raw K "turned" sTurned)
    (R_moved : Raw K "moved" sMoved)
    (R_moved_once : Raw K "moved_once" sMovedOnce)
    (R_reached : Raw K "reached" sReached)
    (R_put : Raw K "put" sPut)
    (R__law_cell : Raw K "_law_cell" sCell)
    (R__law_row : Raw K "_law_row" sLRow)
    (R__law_together : Raw K "_law_together" sLTogether)
    (R__law_sheet : Raw K "_law_sheet" sSheet)
    (R__law_renumbered : Raw K "_law_renumbered" sLRenumbered)
    (R__law_met : Raw K "_law_met" sMet)
    (R__law_numbered : Raw K "_law_numbered" sLNumbered)
    (R__law_back : Raw K "_law_back" sLBack)
    (R__law_moved : Raw K "_law_moved" sLMoved)
    (R__law_form : Raw K "_law_form" sLForm)
    (R__law_pairs : Raw K "_law_pairs" sLPairs)
    (R__law_closed : Raw K "_law_closed" sLClosed)
    (R_law : Raw K "law" sLaw)
    (c_MOST_LETTERS : PySem.W.nsIn K mainGlobals "MOST_LETTERS" = some (some (.int 1000 t_MOST_LETTERS)))
    (m_CN : PySem.W.nsIn K mainGlobals "NoSquare" = some (some (.ref CN))) (f_CN : ClsF K CN)
    (m_CR : PySem.W.nsIn K mainGlobals "NoRenumbering" = some (some (.ref CR))) (f_CR : ClsF K CR)
    (m_CW : PySem.W.nsIn K mainGlobals "NoWord" = some (some (.ref CW))) (f_CW : ClsF K CW)
    (m_CS : PySem.W.nsIn K mainGlobals "SheetError" = some (some (.ref CS))) (f_CS : ClsF K CS)
    (m_CT : PySem.W.nsIn K mainGlobals "TooMany" = some (some (.ref CT))) (f_CT : ClsF K CT)
    (e_CN : ExCls K CN)
    (e_CR : ExCls K CR)
    (e_CW : ExCls K CW)
    (e_CT : ExCls K CT)
    (s0 : PySem.W.subIn K (.ref CT) (.ref CT) = some true)
    (s1 : PySem.W.subIn K (.ref CT) (.ref CS) = some true)
    (s2 : PySem.W.subIn K (.ref CT) (.type "ValueError") = some true)
    (m_LETTERS : PySem.W.nsIn K mainGlobals "LETTERS" = some (some (.ref a_LETTERS))) (d_LETTERS : TDi l.prog w K a_LETTERS [(Sum.inr (Str.ofString "s"), v0_LETTERS), (Sum.inr (Str.ofString "t"), v1_LETTERS)])
    (z_len : PySem.W.nsIn K mainGlobals "len" = some none)
    (z_range : PySem.W.nsIn K mainGlobals "range" = some none)
    (z_list : PySem.W.nsIn K mainGlobals "list" = some none)
    (z_tuple : PySem.W.nsIn K mainGlobals "tuple" = some none)
    (z_isinstance : PySem.W.nsIn K mainGlobals "isinstance" = some none)
    (z_int : PySem.W.nsIn K mainGlobals "int" = some none)
    (z_bool : PySem.W.nsIn K mainGlobals "bool" = some none)
    (z_all : PySem.W.nsIn K mainGlobals "all" = some none)
    (z_set : PySem.W.nsIn K mainGlobals "set" = some none)
    (z_sorted : PySem.W.nsIn K mainGlobals "sorted" = some none)
    (z_enumerate : PySem.W.nsIn K mainGlobals "enumerate" = some none)
    (z_min : PySem.W.nsIn K mainGlobals "min" = some none)
    (z_str : PySem.W.nsIn K mainGlobals "str" = some none)
    : ∃ fd : FuncData, (∀ (s : Shared) (v : Value), BindsTo s fd ⟨[v], []⟩ [("_law_script", v)]) ∧ ∀ base : Heap, K.In base → base.Ns mainGlobals mg → FnOk l.prog w K mg base CX0 9 fa fd ["_law_script"] (spLaw K) := by
  have T : Bi mg := ⟨PySem.W.mg_none_of X G z_len, PySem.W.mg_none_of X G z_range, PySem.W.mg_none_of X G z_list, PySem.W.mg_none_of X G z_tuple, PySem.W.mg_none_of X G z_isinstance, PySem.W.mg_none_of X G z_int, PySem.W.mg_none_of X G z_bool, PySem.W.mg_none_of X G z_all, PySem.W.mg_none_of X G z_set, PySem.W.mg_none_of X G z_sorted, PySem.W.mg_none_of X G z_enumerate⟩
  have T_min : mg "min" = none := PySem.W.mg_none_of X G z_min
  have T_str : mg "str" = none := PySem.W.mg_none_of X G z_str
  have C_MOST_LETTERS := PySem.W.mg_of X G c_MOST_LETTERS
  have C_LETTERS := PySem.W.mg_of X G m_LETTERS
  have D_LETTERS := d_LETTERS
  have M_CN := PySem.W.mg_of X G m_CN
  have M_CR := PySem.W.mg_of X G m_CR
  have M_CW := PySem.W.mg_of X G m_CW
  have M_CS := PySem.W.mg_of X G m_CS
  have M_CT := PySem.W.mg_of X G m_CT
  obtain ⟨f_size, d_size, F_size⟩ := R_size.fn (ps := ["sheet"]) X G fun _ _ _ _ _ _ us hl => match us, hl with | [_], _ => rfl
  obtain ⟨f_back_row, d_back_row, F_back_row⟩ := R_back_row.fn (ps := ["row"]) X G fun _ _ _ _ _ _ us hl => match us, hl with | [_], _ => rfl
  obtain ⟨f_has_each_once, d_has_each_once, F_has_each_once⟩ := R_has_each_once.fn (ps := ["row"]) X G fun _ _ _ _ _ _ us hl => match us, hl with | [_], _ => rfl
  obtain ⟨f_is_whole, d_is_whole, F_is_whole⟩ := R_is_whole.fn (ps := ["thing"]) X G fun _ _ _ _ _ _ us hl => match us, hl with | [_], _ => rfl
  obtain ⟨f_is_square, d_is_square, F_is_square⟩ := R_is_square.fn (ps := ["thing", "squares"]) X G fun _ _ _ _ _ _ us hl => match us, hl with | [_, _], _ => rfl
  obtain ⟨f_need_square, d_need_square, F_need_square⟩ := R_need_square.fn (ps := ["sheet", "square"]) X G fun _ _ _ _ _ _ us hl => match us, hl with | [_, _], _ => rfl
  obtain ⟨f_renumbered, d_renumbered, F_renumbered⟩ := R_renumbered.fn (ps := ["sheet", "f"]) X G fun _ _ _ _ _ _ us hl => match us, hl with | [_, _], _ => rfl
  obtain ⟨f_numbering, d_numbering, F_numbering⟩ := R_numbering.fn (ps := ["sheet", "first"]) X G fun _ _ _ _ _ _ us hl => match us, hl with | [_, _], _ => rfl
  obtain ⟨f_is_renumbering, d_is_renumbering, F_is_renumbering⟩ := R_is_renumbering.fn (ps := ["sheet", "f"]) X G fun _ _ _ _ _ _ us hl => match us, hl with | [_, _], _ => rfl
  obtain ⟨f_renumbered_row, d_renumbered_row, F_renumbered_row⟩ := R_renumbered_row.fn (ps := ["row", "f"]) X G fun _ _ _ _ _ _ us hl => match us, hl with | [_, _], _ => rfl
  obtain ⟨f_form, d_form, F_form⟩ := R_form.fn (ps := ["sheet"]) X G fun _ _ _ _ _ _ us hl => match us, hl with | [_], _ => rfl
  obtain ⟨f_form_with_numbering, d_form_with_numbering, F_form_with_numbering⟩ := R_form_with_numbering.fn (ps := ["sheet"]) X G fun _ _ _ _ _ _ us hl => match us, hl with | [_], _ => rfl
  obtain ⟨f_need_word, d_need_word, F_need_word⟩ := R_need_word.fn (ps := ["word"]) X G fun _ _ _ _ _ _ us hl => match us, hl with | [_], _ => rfl
  obtain ⟨f_sheared, d_sheared, F_sheared⟩ := R_sheared.fn (ps := ["sheet"]) X G fun _ _ _ _ _ _ us hl => match us, hl with | [_], _ => rfl
  obtain ⟨f_turned, d_turned, F_turned⟩ := R_turned.fn (ps := ["sheet"]) X G fun _ _ _ _ _ _ us hl => match us, hl with | [_], _ => rfl
  obtain ⟨f_moved, d_moved, F_moved⟩ := R_moved.fn (ps := ["sheet", "word"]) X G fun _ _ _ _ _ _ us hl => match us, hl with | [_, _], _ => rfl
  obtain ⟨f_moved_once, d_moved_once, F_moved_once⟩ := R_moved_once.fn (ps := ["sheet", "letter"]) X G fun _ _ _ _ _ _ us hl => match us, hl with | [_, _], _ => rfl
  obtain ⟨f_reached, d_reached, F_reached⟩ := R_reached.fn (ps := ["sheet", "most"]) X G fun _ _ _ _ _ _ us hl => match us, hl with | [_, _], _ => rfl
  obtain ⟨f_put, d_put, F_put⟩ := R_put.fn (ps := ["told", "listed", "pair", "most"]) X G fun _ _ _ _ _ _ us hl => match us, hl with | [_, _, _, _], _ => rfl
  obtain ⟨f__law_cell, d__law_cell, F__law_cell⟩ := R__law_cell.fn (ps := ["_law_script", "_law_k"]) X G fun _ _ _ _ _ _ us hl => match us, hl with | [_, _], _ => rfl
  obtain ⟨f__law_row, d__law_row, F__law_row⟩ := R__law_row.fn (ps := ["_law_script", "_law_at", "_law_many"]) X G fun _ _ _ _ _ _ us hl => match us, hl with | [_, _, _], _ => rfl
  obtain ⟨f__law_together, d__law_together, F__law_together⟩ := R__law_together.fn (ps := ["_law_first", "_law_second"]) X G fun _ _ _ _ _ _ us hl => match us, hl with | [_, _], _ => rfl
  obtain ⟨f__law_sheet, d__law_sheet, F__law_sheet⟩ := R__law_sheet.fn (ps := ["_law_script", "_law_at", "_law_many"]) X G fun _ _ _ _ _ _ us hl => match us, hl with | [_, _, _], _ => rfl
  obtain ⟨f__law_renumbered, d__law_renumbered, F__law_renumbered⟩ := R__law_renumbered.fn (ps := ["_law_sheet_here", "_law_f"]) X G fun _ _ _ _ _ _ us hl => match us, hl with | [_, _], _ => rfl
  obtain ⟨f__law_met, d__law_met, F__law_met⟩ := R__law_met.fn (ps := ["_law_sheet_here", "_law_start"]) X G fun _ _ _ _ _ _ us hl => match us, hl with | [_, _], _ => rfl
  obtain ⟨f__law_numbered, d__law_numbered, F__law_numbered⟩ := R__law_numbered.fn (ps := ["_law_sheet_here", "_law_start"]) X G fun _ _ _ _ _ _ us hl => match us, hl with | [_, _], _ => rfl
  obtain ⟨f__law_back, d__law_back, F__law_back⟩ := R__law_back.fn (ps := ["_law_row_here"]) X G fun _ _ _ _ _ _ us hl => match us, hl with | [_], _ => rfl
  obtain ⟨f__law_moved, d__law_moved, F__law_moved⟩ := R__law_moved.fn (ps := ["_law_sheet_here", "_law_letter"]) X G fun _ _ _ _ _ _ us hl => match us, hl with | [_, _], _ => rfl
  obtain ⟨f__law_form, d__law_form, F__law_form⟩ := R__law_form.fn (ps := ["_law_sheet_here"]) X G fun _ _ _ _ _ _ us hl => match us, hl with | [_], _ => rfl
  obtain ⟨f__law_pairs, d__law_pairs, F__law_pairs⟩ := R__law_pairs.fn (ps := ["_law_found"]) X G fun _ _ _ _ _ _ us hl => match us, hl with | [_], _ => rfl
  obtain ⟨f__law_closed, d__law_closed, F__law_closed⟩ := R__law_closed.fn (ps := ["_law_sheet_here", "_law_found"]) X G fun _ _ _ _ _ _ us hl => match us, hl with | [_, _], _ => rfl
  obtain ⟨fL, dL, FL, aL, kV, doc, pm, an, cdv, ct, eL⟩ := R_law
  have bL := FL.binds (ps := ["_law_script"]) fun _ _ _ _ _ _ us hl => match us, hl with | [_], _ => rfl
  have e := hfa.symm.trans (PySem.W.mg_of X G aL)
  cases e
  refine ⟨dL, fun s v => ?_, fun base _ _ => ?_⟩
  · subst eL; exact .of_eq rfl
  · have F_law : Fn K mg "law" sLaw ["_law_script"] fa dL := ⟨FL, bL, PySem.W.mg_of X G aL⟩
    have G_cell := ok_cellA (P := l.prog) (w := w) (base := base) T F__law_cell
    have G_size := ok_size (P := l.prog) (w := w) (base := base) T F_size
    have G_isSq := ok_isSqG (P := l.prog) (w := w) (base := base) T F_is_square F_is_whole
    have G_isSq1 := ok_isSq (P := l.prog) (w := w) (base := base) T F_is_square F_is_whole
    have G_need := ok_need e_CN M_CN F_need_square F_size G_size F_is_square G_isSq1
    have G_each := ok_eachG T F_has_each_once F_is_square G_isSq
    have G_back := ok_backA (P := l.prog) (w := w) (base := base) T F_back_row
    have G_numb := ok_numb T F_numbering F_need_square G_need F_back_row G_back
    have G_renRow := ok_renRow T F_renumbered_row F_back_row G_back
    have G_isRen := ok_isRenG T F_is_renumbering F_size G_size F_has_each_once G_each
    have G_ren := ok_renG e_CR M_CR F_renumbered F_is_renumbering G_isRen F_renumbered_row G_renRow
    have G_row := ok_row T F__law_row F__law_cell G_cell
    have G_tog := ok_tog (P := l.prog) (w := w) (base := base) T F__law_together
    have G_sheet := ok_sheetA F__law_sheet F__law_row G_row F__law_together G_tog
    have G_renum := ok_renum (P := l.prog) (w := w) (base := base) T F__law_renumbered
    have G_mt := ok_mt (P := l.prog) (w := w) (base := base) T F__law_met
    have G_nu := ok_nu T F__law_numbered F__law_met G_mt
    have G_fw := ok_fw T T_min F_form_with_numbering F_size G_size F_numbering G_numb F_renumbered G_ren
    have G_fm := ok_fm F_form F_form_with_numbering G_fw
    have G_lf := ok_lf T T_min F__law_form F__law_renumbered G_renum F__law_numbered G_nu
    have G_brow := ok_backRow (P := l.prog) (w := w) (base := base) T F_back_row
    have G_shr := ok_shr T F_sheared F_back_row G_brow
    have G_trn := ok_trn F_turned F_back_row G_brow
    have G_m1 := ok_m1 F_moved_once F_sheared G_shr F_turned G_trn
    have G_nd := ok_nd (P := l.prog) (w := w) (base := base) T e_CW M_CW C_LETTERS D_LETTERS C_MOST_LETTERS F_need_word
    have G_md := ok_md F_moved F_need_word G_nd F_moved_once G_m1
    have G_lback := ok_lback (P := l.prog) (w := w) (base := base) T F__law_back
    have G_lm := ok_lm7 T F__law_moved F__law_back G_lback
    have G_put := ok_pu4 (P := l.prog) (w := w) (base := base) T e_CT M_CT F_put
    have G_re := ok_re71 T F_reached F_put G_put F_form G_fm F_moved G_md
    have G_pa := ok_pa71 (P := l.prog) (w := w) (base := base) T T_str F__law_pairs
    have G_cl := ok_cl71 T F__law_closed F__law_form G_lf F__law_moved G_lm
    exact ok_law T F_law F__law_cell G_cell F__law_sheet G_sheet F_reached G_re F__law_pairs G_pa F__law_closed G_cl F__law_moved G_lm F__law_form G_lf
theorem walk {l : PySem.W.OpenLaw} {q : Program} {loose : List Str} {XP : (Str → Option Value) → Heap → Prop} {YP : World → Heap → Prop} {d : DefRec} {K : Params → PySem.W.Frag} (hn : l.most = some 63) (hdf : d.params.defaults = [])
    (hY : ∀ (w : World) (h : Heap), YP w h → (K w.params).In h)
    (F : ∀ (w : World) (mg : Str → Option Value) (fa : Addr) (h : Heap), (K w.params).In h → h.Ns mainGlobals mg → mg d.name = some (.ref fa) →
      ∃ fd : FuncData, (∀ (s : Shared) (u : Value), BindsTo s fd ⟨[u], []⟩ [("_law_script", u)]) ∧ ∀ base : Heap, (K w.params).In base → base.Ns mainGlobals mg → FnOk l.prog w (K w.params) mg base CX0 9 fa fd ["_law_script"] (spLaw (K w.params))) :
    PySem.W.WalkO q loose XP YP l.row.toRowW d [] (fun f vs => PySem.call f vs) :=
  L2.walk_of (n := 63) (k := 9) (x := "_law_script") (CX := fun _ => CX0) (sp := fun w => spLaw (K w.params)) hn (by decide) hdf ⟨rfl, by decide, by decide⟩ hY F (fun _ _ a ns hl _ hS => ⟨a, ns, rfl, hS, fun _ => rfl⟩) fun _ _ _ _ _ z => z
end K1
open PySem PySem.W PyProof.Rows
set_option maxRecDepth 100000 in
set_option maxHeartbeats 0 in
theorem PySem.Challenge.cw_squaresheet_k71_reached_closed_holds : PySem.Challenge.rw_squaresheet_k71_reached_closed.Holds := by
  w_on; o_law; k_head; (case hw => w_witness2)
  k_fill
  refine K1.walk (l := PySem.Challenge.rw_squaresheet_k71_reached_closed) rfl rfl (fun w h Y => PySem.W.kIn_of Y) ?F
  case F =>
    intro w mg fa h KX G hmg
    have R_size : K1.Raw (L2.KOf KX) "size" K1.sSize := by
      dsimp only [L2.KOf]
      refine' K1.raw_mk ?a ?l ?c ?k
      (case a => k_is); (case l => k_is); (case c => k_is); (case k => k_is)
    have R_back_row : K1.Raw (L2.KOf KX) "back_row" K1.sBackRow := by
      dsimp only [L2.KOf]
      refine' K1.raw_mk ?a ?l ?c ?k
      (case a => k_is); (case l => k_is); (case c => k_is); (case k => k_is)
    have R_has_each_once : K1.Raw (L2.KOf KX) "has_each_once" K1.sEach := by
      dsimp only [L2.KOf]
      refine' K1.raw_mk ?a ?l ?c ?k
      (case a => k_is); (case l => k_is); (case c => k_is); (case k => k_is)
    have R_is_whole : K1.Raw (L2.KOf KX) "is_whole" K1.sIsWhole := by
      dsimp only [L2.KOf]
      refine' K1.raw_mk ?a ?l ?c ?k
      (case a => k_is); (case l => k_is); (case c => k_is); (case k => k_is)
    have R_is_square : K1.Raw (L2.KOf KX) "is_square" K1.sIsSq := by
      dsimp only [L2.KOf]
      refine' K1.raw_mk ?a ?l ?c ?k
      (case a => k_is); (case l => k_is); (case c => k_is); (case k => k_is)
    have R_need_square : K1.Raw (L2.KOf KX) "need_square" K1.sNeed := by
      dsimp only [L2.KOf]
      refine' K1.raw_mk ?a ?l ?c ?k
      (case a => k_is); (case l => k_is); (case c => k_is); (case k => k_is)
    have R_renumbered : K1.Raw (L2.KOf KX) "renumbered" K1.sRenumbered := by
      dsimp only [L2.KOf]
      refine' K1.raw_mk ?a ?l ?c ?k
      (case a => k_is); (case l => k_is); (case c => k_is); (case k => k_is)
    have R_numbering : K1.Raw (L2.KOf KX) "numbering" K1.sNumbering := by
      dsimp only [L2.KOf]
      refine' K1.raw_mk ?a ?l ?c ?k
      (case a => k_is); (case l => k_is); (case c => k_is); (case k => k_is)
    have R_is_renumbering : K1.Raw (L2.KOf KX) "is_renumbering" K1.sIsRenumbering := by
      dsimp only [L2.KOf]
      refine' K1.raw_mk ?a ?l ?c ?k
      (case a => k_is); (case l => k_is); (case c => k_is); (case k => k_is)
    have R_renumbered_row : K1.Raw (L2.KOf KX) "renumbered_row" K1.sRenumberedRow := by
      dsimp only [L2.KOf]
      refine' K1.raw_mk ?a ?l ?c ?k
      (case a => k_is); (case l => k_is); (case c => k_is); (case k => k_is)
    have R_form : K1.Raw (L2.KOf KX) "form" K1.sForm := by
      dsimp only [L2.KOf]
      refine' K1.raw_mk ?a ?l ?c ?k
      (case a => k_is); (case l => k_is); (case c => k_is); (case k => k_is)
    have R_form_with_numbering : K1.Raw (L2.KOf KX) "form_with_numbering" K1.sFormWithNumbering := by
      dsimp only [L2.KOf]
      refine' K1.raw_mk ?a ?l ?c ?k
      (case a => k_is); (case l => k_is); (case c => k_is); (case k => k_is)
    have R_need_word : K1.Raw (L2.KOf KX) "need_word" K1.sNeedWord := by
      dsimp only [L2.KOf]
      refine' K1.raw_mk ?a ?l ?c ?k
      (case a => k_is); (case l => k_is); (case c => k_is); (case k => k_is)
    have R_sheared : K1.Raw (L2.KOf KX) "sheared" K1.sSheared := by
      dsimp only [L2.KOf]
      refine' K1.raw_mk ?a ?l ?c ?k
      (case a => k_is); (case l => k_is); (case c => k_is); (case k => k_is)
    have R_turned : K1.Raw (L2.KOf KX) "turned" K1.sTurned := by
      dsimp only [L2.KOf]
      refine' K1.raw_mk ?a ?l ?c ?k
      (case a => k_is); (case l => k_is); (case c => k_is); (case k => k_is)
    have R_moved : K1.Raw (L2.KOf KX) "moved" K1.sMoved := by
      dsimp only [L2.KOf]
      refine' K1.raw_mk ?a ?l ?c ?k
      (case a => k_is); (case l => k_is); (case c => k_is); (case k => k_is)
    have R_moved_once : K1.Raw (L2.KOf KX) "moved_once" K1.sMovedOnce := by
      dsimp only [L2.KOf]
      refine' K1.raw_mk ?a ?l ?c ?k
      (case a => k_is); (case l => k_is); (case c => k_is); (case k => k_is)
    have R_reached : K1.Raw (L2.KOf KX) "reached" K1.sReached := by
      dsimp only [L2.KOf]
      refine' K1.raw_mk ?a ?l ?c ?k
      (case a => k_is); (case l => k_is); (case c => k_is); (case k => k_is)
    have R_put : K1.Raw (L2.KOf KX) "put" K1.sPut := by
      dsimp only [L2.KOf]
      refine' K1.raw_mk ?a ?l ?c ?k
      (case a => k_is); (case l => k_is); (case c => k_is); (case k => k_is)
    have R__law_cell : K1.Raw (L2.KOf KX) "_law_cell" K1.sCell := by
      dsimp only [L2.KOf]
      refine' K1.raw_mk ?a ?l ?c ?k
      (case a => k_is); (case l => k_is); (case c => k_is); (case k => k_is)
    have R__law_row : K1.Raw (L2.KOf KX) "_law_row" K1.sLRow := by
      dsimp only [L2.KOf]
      refine' K1.raw_mk ?a ?l ?c ?k
      (case a => k_is); (case l => k_is); (case c => k_is); (case k => k_is)
    have R__law_together : K1.Raw (L2.KOf KX) "_law_together" K1.sLTogether := by
      dsimp only [L2.KOf]
      refine' K1.raw_mk ?a ?l ?c ?k
      (case a => k_is); (case l => k_is); (case c => k_is); (case k => k_is)
    have R__law_sheet : K1.Raw (L2.KOf KX) "_law_sheet" K1.sSheet := by
      dsimp only [L2.KOf]
      refine' K1.raw_mk ?a ?l ?c ?k
      (case a => k_is); (case l => k_is); (case c => k_is); (case k => k_is)
    have R__law_renumbered : K1.Raw (L2.KOf KX) "_law_renumbered" K1.sLRenumbered := by
      dsimp only [L2.KOf]
      refine' K1.raw_mk ?a ?l ?c ?k
      (case a => k_is); (case l => k_is); (case c => k_is); (case k => k_is)
    have R__law_met : K1.Raw (L2.KOf KX) "_law_met" K1.sMet := by
      dsimp only [L2.KOf]
      refine' K1.raw_mk ?a ?l ?c ?k
      (case a => k_is); (case l => k_is); (case c => k_is); (case k => k_is)
    have R__law_numbered : K1.Raw (L2.KOf KX) "_law_numbered" K1.sLNumbered := by
      dsimp only [L2.KOf]
      refine' K1.raw_mk ?a ?l ?c ?k
      (case a => k_is); (case l => k_is); (case c => k_is); (case k => k_is)
    have R__law_back : K1.Raw (L2.KOf KX) "_law_back" K1.sLBack := by
      dsimp only [L2.KOf]
      refine' K1.raw_mk ?a ?l ?c ?k
      (case a => k_is); (case l => k_is); (case c => k_is); (case k => k_is)
    have R__law_moved : K1.Raw (L2.KOf KX) "_law_moved" K1.sLMoved := by
      dsimp only [L2.KOf]
      refine' K1.raw_mk ?a ?l ?c ?k
      (case a => k_is); (case l => k_is); (case c => k_is); (case k => k_is)
    have R__law_form : K1.Raw (L2.KOf KX) "_law_form" K1.sLForm := by
      dsimp only [L2.KOf]
      refine' K1.raw_mk ?a ?l ?c ?k
      (case a => k_is); (case l => k_is); (case c => k_is); (case k => k_is)
    have R__law_pairs : K1.Raw (L2.KOf KX) "_law_pairs" K1.sLPairs := by
      dsimp only [L2.KOf]
      refine' K1.raw_mk ?a ?l ?c ?k
      (case a => k_is); (case l => k_is); (case c => k_is); (case k => k_is)
    have R__law_closed : K1.Raw (L2.KOf KX) "_law_closed" K1.sLClosed := by
      dsimp only [L2.KOf]
      refine' K1.raw_mk ?a ?l ?c ?k
      (case a => k_is); (case l => k_is); (case c => k_is); (case k => k_is)
    have R_law : K1.Raw (L2.KOf KX) "law" K1.sLaw := by
      dsimp only [L2.KOf]
      refine' K1.raw_mk ?a ?l ?c ?k
      (case a => k_is); (case l => k_is); (case c => k_is); (case k => k_is)
    refine' K1.all_mk KX G hmg R_size R_back_row R_has_each_once R_is_whole R_is_square R_need_square R_renumbered R_numbering R_is_renumbering R_renumbered_row R_form R_form_with_numbering R_need_word R_sheared R_turned R_moved R_moved_once R_reached R_put R__law_cell R__law_row R__law_together R__law_sheet R__law_renumbered R__law_met R__law_numbered R__law_back R__law_moved R__law_form R__law_pairs R__law_closed R_law ?c_MOST_LETTERS ?m_CN ?f_CN ?m_CR ?f_CR ?m_CW ?f_CW ?m_CS ?f_CS ?m_CT ?f_CT ?e_CN ?e_CR ?e_CW ?e_CT ?s0 ?s1 ?s2 ?m_LETTERS ?d_LETTERS ?z_len ?z_range ?z_list ?z_tuple ?z_isinstance ?z_int ?z_bool ?z_all ?z_set ?z_sorted ?z_enumerate ?z_min ?z_str
    (case c_MOST_LETTERS => k_is); (case m_CN => k_is); (case f_CN => (refine' ⟨?_, ?_, ?_, ?_, ?_, ?_, ?_, ?_, ?_⟩ <;> k_is)); (case m_CR => k_is); (case f_CR => (refine' ⟨?_, ?_, ?_, ?_, ?_, ?_, ?_, ?_, ?_⟩ <;> k_is)); (case m_CW => k_is); (case f_CW => (refine' ⟨?_, ?_, ?_, ?_, ?_, ?_, ?_, ?_, ?_⟩ <;> k_is)); (case m_CS => k_is); (case f_CS => (refine' ⟨?_, ?_, ?_, ?_, ?_, ?_, ?_, ?_, ?_⟩ <;> k_is)); (case m_CT => k_is); (case f_CT => (refine' ⟨?_, ?_, ?_, ?_, ?_, ?_, ?_, ?_, ?_⟩ <;> k_is)); (case e_CN => (unfold L2.ExCls; k_exc)); (case e_CR => (unfold L2.ExCls; k_exc)); (case e_CW => (unfold L2.ExCls; k_exc)); (case e_CT => (unfold L2.ExCls; k_exc)); (case s0 => k_is); (case s1 => k_is); (case s2 => k_is); (case m_LETTERS => k_is); (case d_LETTERS => (refine' L2.tdi2 ?hs ?l ?e1 ?e2 ?ne; (case hs => decide); (case l => k_is); (case e1 => rfl); (case e2 => rfl); (case ne => decide))); (case z_len => k_is); (case z_range => k_is); (case z_list => k_is); (case z_tuple => k_is); (case z_isinstance => k_is); (case z_int => k_is); (case z_bool => k_is); (case z_all => k_is); (case z_set => k_is); (case z_sorted => k_is); (case z_enumerate => k_is); (case z_min => k_is); (case z_str => k_is)
#print axioms PySem.Challenge.cw_squaresheet_k71_reached_closed_holds
